package script_test

import (
	"bytes"
	"slices"
	"testing"

	"patchbay/api"
	"patchbay/book"
	"patchbay/bridge"
	"patchbay/hist"
	"patchbay/key"
	"patchbay/mac"
	"patchbay/model"
	"patchbay/port"
	"patchbay/script"
	"patchbay/turn"
	"patchbay/vlan"
)

// planOf is a plan of so many ports and VLANs; no VLAN's number is its place.
func planOf(ports, vlans int, size book.Size) model.Plan {
	p := model.Plan{Ports: ports, Size: size, Tries: 2, Ring: 2, Normal: 30, Short: 5}
	for range ports {
		p.Rules = append(p.Rules, vlan.Rule{Pvid: 3})
	}
	for i := range vlans {
		p.Vlans = append(p.Vlans, vlan.Vlan{Vid: 3 + 100*i, Members: vlan.All(ports), Untagged: 1})
	}
	return p
}

// plans may be: at the limits, and between.
func plans() []model.Plan {
	l := []model.Plan{
		planOf(2, 0, book.Size{Shards: 1, Buckets: 1, Slots: 1}),
		planOf(2, 1, book.Size{Shards: 1, Buckets: 1, Slots: 2}),
		planOf(3, 2, book.Size{Shards: 2, Buckets: 1, Slots: 2}),
		planOf(5, 3, book.Size{Shards: 2, Buckets: 2, Slots: 4}),
		planOf(64, 16, book.Size{Shards: 8, Buckets: 16, Slots: 8}),
	}
	l[4].Vlans[15].Vid = api.MaxVid
	return l
}

// numbers are made one out of another one.
type numbers struct{ seed uint64 }

// below is one of 0 to n - 1.
func (x *numbers) below(n int) int {
	x.seed = turn.Mix(x.seed)
	return int(x.seed >> 1 % uint64(n))
}

func (x *numbers) bytes(n int) []byte {
	b := make([]byte, n)
	for i := range b {
		b[i] = byte(x.below(256))
	}
	return b
}

// one of some.
func one[T any](x *numbers, l ...T) T { return l[x.below(len(l))] }

// number is one that has a word.
func (x *numbers) number() int {
	return one(x, 0, 1, 9, 10, 99, 100, x.below(1000001), 999999, 1000000)
}

func (x *numbers) set() vlan.Set {
	return one(x, 0, 1, 1<<63, ^vlan.Set(0), vlan.Set(turn.Mix(x.seed)), vlan.Set(turn.Mix(x.seed)&turn.Mix(x.seed+1)&turn.Mix(x.seed+2)))
}

func (x *numbers) mac() mac.Mac { return one(x, 0, 1<<48-1, mac.Mac(turn.Mix(x.seed)>>16)) }

// event is one that has a line; all that isn't in it is 0.
func (x *numbers) event() script.Event {
	switch kind := x.below(7); kind {
	case script.Pick, script.Tick, script.Round:
		return script.Event{Kind: kind, N: x.number()}
	case script.Frame:
		return script.Event{Kind: kind, Port: x.number(), Bytes: x.bytes(one(x, 0, 1, 2, 60, 1518, 3000))}
	case script.Change:
		return script.Event{Kind: kind, N: x.below(2)}
	case script.Order:
		return script.Event{Kind: kind, Op: x.order()}
	default:
		return script.Event{Kind: kind}
	}
}

func (x *numbers) order() model.Op {
	switch x.below(5) {
	case 0:
		return model.Op{Kind: model.SetState, Port: x.number(), State: x.below(port.Forwarding + 1)}
	case 1:
		return model.Op{Kind: model.SetVlan, Vid: x.number(), Members: x.set(), Untagged: x.set()}
	case 2:
		return model.Op{Kind: model.Flush, Port: one(x, -1, x.number()), Vid: one(x, -1, x.number())}
	case 3:
		return model.Op{Kind: model.Order, Key: key.Key{Vid: x.number(), Mac: x.mac()}, Port: x.number()}
	}
	return model.Op{Kind: model.Drop, Key: key.Key{Vid: x.number(), Mac: x.mac()}}
}

func sameEvent(a, b script.Event) bool {
	return a.Kind == b.Kind && a.Port == b.Port && a.N == b.N && bytes.Equal(a.Bytes, b.Bytes) && a.Op == b.Op
}

func same(a, b []script.Event) bool { return slices.EqualFunc(a, b, sameEvent) }

// copied is a list whose Bytes are its own.
func copied(l []script.Event) []script.Event {
	l = slices.Clone(l)
	for i := range l {
		l[i].Bytes = slices.Clone(l[i].Bytes)
	}
	return l
}

// newSwitch lets two frames come at once, and one more each second tick.
func newSwitch(t *testing.T, p model.Plan) *bridge.Switch {
	t.Helper()
	s, e := bridge.New(p, 0.5, 2)
	if e != api.OK {
		t.Fatalf("%+v: %d", p, e)
	}
	return s
}

// alike: did the same come and happen to two switches?
func alike(t *testing.T, what string, a, b *bridge.Switch) {
	t.Helper()
	if a.Now() != b.Now() || a.Time() != b.Time() || a.Quiet() != b.Quiet() || a.Rounds() != b.Rounds() {
		t.Fatalf("%s: %d, %d, %v, %d, not %d, %d, %v, %d", what, a.Now(), a.Time(), a.Quiet(), a.Rounds(), b.Now(), b.Time(), b.Quiet(), b.Rounds())
	}
	sameArrival := func(a, b bridge.Arrival) bool {
		return a.Port == b.Port && a.Tick == b.Tick && bytes.Equal(a.Bytes, b.Bytes)
	}
	if !slices.EqualFunc(a.Arrivals(), b.Arrivals(), sameArrival) {
		t.Fatalf("%s: %+v came, not %+v", what, a.Arrivals(), b.Arrivals())
	}
	if !slices.Equal(a.Log(), b.Log()) {
		t.Fatalf("%s: %+v, not %+v", what, a.Log(), b.Log())
	}
}

func sameLists[T comparable](a, b [][]T) bool { return slices.EqualFunc(a, b, slices.Equal[[]T]) }

// right: what was done is a right history, and when all is quiet the memory stands as the model behind it.
func right(t *testing.T, p model.Plan, s *bridge.Switch) {
	t.Helper()
	l := s.Log()
	if i, e := hist.Check(p, l); i != -1 || e != api.OK {
		t.Fatalf("error %d at %d: %+v", e, i, l[max(i, 0)])
	}
	if !s.Quiet() {
		return
	}
	m, _ := hist.Replay(p, l)
	a, b := s.Shape(), m.Shape()
	if !slices.Equal(a.Stands, b.Stands) || !slices.Equal(a.Vlans, b.Vlans) || !sameLists(a.Buckets, b.Buckets) || !slices.EqualFunc(a.Queues, b.Queues, sameLists[int]) {
		t.Fatalf("%+v, not %+v", a, b)
	}
}
