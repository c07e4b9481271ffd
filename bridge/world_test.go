package bridge_test

import (
	"bytes"
	"cmp"
	"slices"
	"testing"

	"patchbay/api"
	"patchbay/book"
	"patchbay/bridge"
	"patchbay/frame"
	"patchbay/hist"
	"patchbay/key"
	"patchbay/mac"
	"patchbay/model"
	"patchbay/port"
	"patchbay/turn"
	"patchbay/vlan"
)

const (
	station   = mac.Mac(0x020000000000) // of station 0: of others so many more
	broadcast = mac.Mac(0xffffffffffff)
	group     = mac.Mac(0x01005e000001)
	reserved  = mac.Mac(0x0180c200000e)
)

// planOf is a plan of so many ports, that have VLANs 1 to so many, but for one port each; each port has the VLAN of one of them, or of none.
func planOf(ports, vlans int, size book.Size, ring int) model.Plan {
	p := model.Plan{Ports: ports, Size: size, Tries: 2, Ring: ring, Normal: 30, Short: 5}
	for i := range ports {
		p.Rules = append(p.Rules, vlan.Rule{Pvid: 1 + i%(vlans+1)})
	}
	for i := range vlans {
		members := vlan.All(ports) &^ (vlan.Set(1) << ((i + 1) % ports))
		p.Vlans = append(p.Vlans, vlan.Vlan{Vid: i + 1, Members: members, Untagged: members & 0x5555555555555555})
	}
	return p
}

// open is a plan of so many ports, that are all in VLANs 1 and 2, in the first one without a tag.
func open(ports, ring int) model.Plan {
	p := planOf(ports, 2, book.Size{Shards: 1, Buckets: 2, Slots: 4}, ring)
	all := vlan.All(ports)
	p.Vlans = []vlan.Vlan{{Vid: 1, Members: all, Untagged: all}, {Vid: 2, Members: all}}
	for i := range p.Rules {
		p.Rules[i] = vlan.Rule{Pvid: 1}
	}
	return p
}

// plans may be: at the limits, and between; the last one is the greatest.
func plans() []model.Plan {
	l := []model.Plan{
		planOf(2, 0, book.Size{Shards: 1, Buckets: 1, Slots: 1}, 1),
		open(2, 1),
		planOf(4, 2, book.Size{Shards: 2, Buckets: 1, Slots: 2}, 2),
		open(3, 3),
		planOf(5, 3, book.Size{Shards: 2, Buckets: 2, Slots: 2}, 8),
		planOf(64, 16, book.Size{Shards: 8, Buckets: 16, Slots: 8}, 64),
	}
	l[3].Tries, l[3].Size = 1, book.Size{Shards: 1, Buckets: 1, Slots: 1}
	l[4].Rules[2].Accept, l[4].Rules[4].Accept = vlan.OnlyTagged, vlan.OnlyUntagged
	l[5].Tries = api.MaxTries
	return l
}

func small() []model.Plan { return plans()[:5] }

// bytesOf is a frame's bytes: without a tag if tci is below 0.
func bytesOf(dst, src mac.Mac, tci int) []byte {
	f := frame.Frame{Dst: dst, Src: src, Type: 0x800, Load: []byte("hello")}
	if tci >= 0 {
		f.Tagged, f.Tci = true, uint16(tci)
	}
	b, e := frame.Write(f)
	if e != api.OK {
		panic(e)
	}
	return b
}

// numbers are made one out of another one.
type numbers struct{ seed uint64 }

// below is one of 0 to n - 1.
func (x *numbers) below(n int) int {
	x.seed = turn.Mix(x.seed)
	return int(x.seed >> 1 % uint64(n))
}

// frame is one of a few stations, now and then one that isn't taken.
func (x *numbers) frame(p model.Plan) []byte {
	dst, src, tci := station+mac.Mac(x.below(5)), station+mac.Mac(x.below(5)), -1
	switch x.below(16) {
	case 0, 1, 2:
		dst = broadcast
	case 3, 4:
		dst = group
	case 5:
		dst = reserved
	case 6:
		src = group
	case 7:
		return make([]byte, x.below(80))
	}
	if x.below(2) == 0 {
		tci = 1 + x.below(len(p.Vlans)+1) | x.below(8)<<13
	}
	return bytesOf(dst, src, tci)
}

// order is one that may be, but now and then one that may not.
func (x *numbers) order(p model.Plan) model.Op {
	return model.Op{
		Kind: []int{model.SetState, model.SetState, model.SetVlan, model.Flush, model.Order, model.Drop, x.below(14)}[x.below(7)], Port: x.below(p.Ports), To: x.below(9),
		Vid: 1 + x.below(len(p.Vlans)+1), State: min(x.below(8), port.Forwarding), Key: key.Key{Vid: 1 + x.below(len(p.Vlans)+1), Mac: station + mac.Mac(x.below(5))},
		Members: vlan.Set(turn.Mix(x.seed)) | vlan.Set(turn.Mix(x.seed+1)), Untagged: vlan.Set(turn.Mix(x.seed + 2)), Now: uint32(x.below(50)), Id: x.below(9),
	}
}

func newSwitch(t *testing.T, p model.Plan, level, most float64) *bridge.Switch {
	t.Helper()
	s, e := bridge.New(p, level, most)
	if s == nil || e != api.OK {
		t.Fatalf("%+v: %d", p, e)
	}
	return s
}

// forwarding is one all of whose ports are Forwarding, and that lets all come.
func forwarding(t *testing.T, p model.Plan) *bridge.Switch {
	t.Helper()
	s := newSwitch(t, p, 1e9, 1e9)
	for i := range p.Ports {
		order(t, s, model.Op{Kind: model.SetState, Port: i, State: port.Forwarding})
	}
	settle(t, s)
	return s
}

func order(t *testing.T, s *bridge.Switch, o model.Op) {
	t.Helper()
	if !s.Order(o) {
		t.Fatalf("%+v can't be", o)
	}
}

// settle picks all in turn till it is Quiet, and answers how many rounds that were: no more than Rounds.
func settle(t *testing.T, s *bridge.Switch) int {
	t.Helper()
	most, rounds := s.Rounds(), 0
	for ; !s.Quiet(); rounds++ {
		if rounds == most {
			t.Fatalf("%d rounds aren't enough", most)
		}
		for k := range s.Tasks() {
			s.Pick(k)
		}
	}
	return rounds
}

// finish picks a task till it has nothing to do.
func finish(t *testing.T, s *bridge.Switch, task int) int {
	t.Helper()
	for n := range 100000 {
		if !s.Pick(task) {
			return n
		}
	}
	t.Fatalf("task %d has no end", task)
	return 0
}

// something: an event from outside, or none.
func something(s interface {
	Arrive(p int, b []byte) int
	Tick(n uint32)
	Change(on bool)
	Sweep() bool
	Order(o model.Op) bool
}, x *numbers, p model.Plan) {
	switch x.below(40) {
	case 0, 1, 2, 3, 4, 5:
		s.Arrive(x.below(p.Ports+1)-x.below(2), x.frame(p))
	case 6:
		s.Tick(uint32(x.below(12)))
	case 7:
		s.Change(x.below(2) == 0)
	case 8:
		s.Sweep()
	case 9, 10:
		s.Order(x.order(p))
	}
}

// opened: orders that make some ports Forwarding.
func opened(s *bridge.Switch, x *numbers, p model.Plan) {
	for i := range p.Ports {
		if x.below(4) > 0 {
			s.Order(model.Op{Kind: model.SetState, Port: i, State: port.Forwarding})
		}
	}
}

func picks(x *numbers, n, count int) []int {
	seed := uint64(x.below(1 << 30))
	return [][]int{turn.Mixed(n, count, seed), turn.Bursts(n, count, 2+int(seed%30), seed), turn.Round(n, count)}[seed%3]
}

func right(t *testing.T, p model.Plan, s *bridge.Switch) {
	t.Helper()
	l := s.Log()
	if i, e := hist.Check(p, l); i != -1 || e != api.OK {
		t.Fatalf("error %d at %d: %+v", e, i, l[max(i, 0)])
	}
}

func sameLists[T comparable](a, b [][]T) bool { return slices.EqualFunc(a, b, slices.Equal[[]T]) }

func same(a, b model.Shape) bool {
	return slices.Equal(a.Stands, b.Stands) && slices.Equal(a.Vlans, b.Vlans) && sameLists(a.Buckets, b.Buckets) && slices.EqualFunc(a.Queues, b.Queues, sameLists[int])
}

func sameArrivals(a, b []bridge.Arrival) bool {
	return slices.EqualFunc(a, b, func(a, b bridge.Arrival) bool {
		return a.Port == b.Port && a.Tick == b.Tick && bytes.Equal(a.Bytes, b.Bytes)
	})
}

func sameOut(a, b []bridge.Out) bool {
	return slices.EqualFunc(a, b, func(a, b bridge.Out) bool {
		return a.Id == b.Id && a.From == b.From && a.To == b.To && a.Mark == b.Mark && bytes.Equal(a.Bytes, b.Bytes)
	})
}

// sorted is a Log in one order: each Who's by its times.
func sorted(l []hist.Entry) []hist.Entry {
	slices.SortStableFunc(l, func(a, b hist.Entry) int { return cmp.Or(cmp.Compare(a.Who, b.Who), cmp.Compare(a.Begin, b.Begin)) })
	return l
}

// quiet: nobody has anything to do, the memory stands as Replay's model, and nothing waits.
func quiet(t *testing.T, p model.Plan, s *bridge.Switch) {
	t.Helper()
	right(t, p, s)
	if !s.Quiet() {
		t.Fatal("it isn't Quiet")
	}
	m, _ := hist.Replay(p, s.Log())
	is := s.Shape()
	if !same(is, m.Shape()) {
		t.Fatalf("%+v, not %+v", is, m.Shape())
	}
	for from, queues := range is.Queues {
		for to, l := range queues {
			if len(l) > 0 {
				t.Fatalf("from %d to %d: %v", from, to, l)
			}
		}
	}
	for k := range s.Tasks() {
		if s.Pick(k) {
			t.Fatalf("task %d has something to do", k)
		}
	}
}
