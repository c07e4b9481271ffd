package script_test

import (
	"bytes"
	"math"
	"slices"
	"testing"

	"patchbay/api"
	"patchbay/audit"
	"patchbay/book"
	"patchbay/bridge"
	"patchbay/frame"
	"patchbay/key"
	"patchbay/mac"
	"patchbay/model"
	"patchbay/port"
	"patchbay/script"
	"patchbay/vlan"
)

// both are two switches of a plan: to the one Events happen, the other one is told by its calls.
type both struct{ played, told *bridge.Switch }

func newBoth(t *testing.T, p model.Plan) both {
	t.Helper()
	return both{newSwitch(t, p), newSwitch(t, p)}
}

func (b both) is(t *testing.T, what string, tell func(s *bridge.Switch), l ...script.Event) {
	t.Helper()
	script.Play(b.played, l)
	tell(b.told)
	alike(t, what, b.played, b.told)
}

func inTurn(s *bridge.Switch, rounds int) {
	for range rounds {
		for k := range s.Tasks() {
			s.Pick(k)
		}
	}
}

// untilQuiet: in turn, till nobody has anything to do.
func untilQuiet(s *bridge.Switch) {
	for !s.Quiet() {
		inTurn(s, 1)
	}
}

// opened: all ports are Forwarding.
func (b both) opened(t *testing.T) {
	t.Helper()
	for _, s := range []*bridge.Switch{b.played, b.told} {
		for i := range s.Tasks()/2 - 1 {
			s.Order(model.Op{Kind: model.SetState, Port: i, State: port.Forwarding})
		}
		untilQuiet(s)
	}
}

func someFrame(src mac.Mac) []byte {
	b, _ := frame.Write(frame.Frame{Dst: 0xffffffffffff, Src: src, Type: 0x800})
	return b
}

func TestPlayPicks(t *testing.T) {
	b := newBoth(t, plans()[2])
	b.opened(t)
	for i := range 3 {
		b.is(t, "a frame", func(s *bridge.Switch) { s.Arrive(i, someFrame(0x020000000001)) }, script.Event{Kind: script.Frame, Port: i, Bytes: someFrame(0x020000000001)})
	}
	b.is(t, "a sweep", func(s *bridge.Switch) { s.Sweep() }, script.Event{Kind: script.Sweep})
	for range 200 {
		for _, k := range []int{3, 0, -1, 5, 7, 6, 8, math.MinInt, 2, 1, 4, math.MaxInt, 1 << 32} {
			before := b.told.Time()
			b.is(t, "a pick", func(s *bridge.Switch) { s.Pick(k) }, script.Event{Kind: script.Pick, N: k, Port: 2, Bytes: []byte{1}})
			if b.played.Time() > before+1 {
				t.Error("more than one step")
			}
		}
	}
	if len(b.played.Out()) == 0 {
		t.Error("nothing went out")
	}
}

func TestPlayFrames(t *testing.T) {
	b := newBoth(t, plans()[2])
	bytes := someFrame(0x020000000001)
	for _, at := range []int{0, 2, 3, -1, 1, math.MaxInt, math.MinInt, 2} {
		b.is(t, "a frame", func(s *bridge.Switch) { s.Arrive(at, bytes) }, script.Event{Kind: script.Frame, Port: at, N: 9, Bytes: bytes})
		b.is(t, "a frame without bytes", func(s *bridge.Switch) { s.Arrive(at, nil) }, script.Event{Kind: script.Frame, Port: at})
	}
	if len(b.played.Arrivals()) != 8 {
		t.Error("not as many came")
	}
}

func TestPlayTicks(t *testing.T) {
	for _, c := range []struct {
		n    int
		want uint32
	}{{0, 0}, {1, 1}, {1000000, 1000000}, {math.MaxUint32, math.MaxUint32}, {1 << 32, 0}, {1<<32 + 7, 7}, {-1, math.MaxUint32}, {math.MinInt, 0}, {math.MaxInt, math.MaxUint32}, {-1<<32 - 3, math.MaxUint32 - 2}} {
		b := newBoth(t, plans()[1])
		b.is(t, "a tick", func(s *bridge.Switch) { s.Tick(c.want) }, script.Event{Kind: script.Tick, N: c.n, Port: 1})
		if b.played.Now() != c.want {
			t.Errorf("%d: %d", c.n, b.played.Now())
		}
		b.is(t, "some more", func(s *bridge.Switch) { s.Tick(7) }, script.Event{Kind: script.Tick, N: 3}, script.Event{Kind: script.Tick, N: 4})
	}
}

// Entries live Short ticks just behind a Change whose N is 1.
func TestPlayChanges(t *testing.T) {
	for _, n := range []int{1, 0, 2, -1, math.MaxInt, math.MinInt, 1<<32 + 1} {
		for _, ahead := range []int{0, 1} {
			b := newBoth(t, plans()[1])
			tell := func(s *bridge.Switch) {
				s.Change(n == 1)
				s.Tick(50)
				s.Sweep()
				s.Sweep()
				s.Pick(4)
			}
			b.is(t, "a change", tell, script.Event{Kind: script.Change, N: ahead}, script.Event{Kind: script.Change, N: n}, script.Event{Kind: script.Tick, N: 50}, script.Event{Kind: script.Sweep, N: 5}, script.Event{Kind: script.Sweep}, script.Event{Kind: script.Pick, N: 4})
			want := uint32(30)
			if n == 1 {
				want = 5
			}
			if l := b.played.Log(); len(l) != 1 || l[0].Op.Limit != want || l[0].Op.Now != 50 {
				t.Errorf("%d: %+v", n, l)
			}
		}
	}
}

// An order's Now is the tick then, whatever it was; and what isn't taken isn't done.
func TestPlayOrders(t *testing.T) {
	p := plans()[2]
	b := newBoth(t, p)
	k := key.Key{Vid: 3, Mac: 0x020000000001}
	var want []uint32
	for i, o := range []model.Op{
		{Kind: model.SetState, Port: 1, State: port.Forwarding, Now: 99}, {Kind: model.Order, Key: k, Port: 2, Now: 99}, {Kind: model.SetVlan, Vid: 3, Members: 3, Untagged: 255}, {Kind: model.Flush, Port: -1, Vid: -1}, {Kind: model.Drop, Key: k, Id: 5},
		{Kind: model.SetState, Port: 3}, {Kind: model.Put}, {Kind: -1}, {Kind: model.Drop},
	} {
		now := o
		now.Now = uint32(7 * i)
		list := []script.Event{{Kind: script.Order, Port: 2, N: 3, Op: o}}
		b.is(t, "an order", func(s *bridge.Switch) { s.Order(now) }, list...)
		if list[0].Op != o {
			t.Error("it is changed")
		}
		b.is(t, "a tick", func(s *bridge.Switch) { s.Tick(7) }, script.Event{Kind: script.Tick, N: 7})
		if i < 5 {
			want = append(want, now.Now)
		}
	}
	b.is(t, "all", func(s *bridge.Switch) { inTurn(s, 500) }, script.Event{Kind: script.Round, N: 500})
	var got []uint32
	for _, e := range b.played.Log() {
		got = append(got, e.Op.Now)
	}
	if !slices.Equal(got, want) || !b.played.Quiet() {
		t.Errorf("%v, not %v", got, want)
	}
}

func TestPlayRounds(t *testing.T) {
	for _, n := range []int{0, 1, 2, 3, 10, 37, -1, math.MinInt} {
		b := newBoth(t, plans()[2])
		b.opened(t)
		for i := range 6 {
			b.is(t, "a frame", func(s *bridge.Switch) { s.Arrive(i%3, someFrame(0x020000000001+mac.Mac(i))) }, script.Event{Kind: script.Frame, Port: i % 3, Bytes: someFrame(0x020000000001 + mac.Mac(i))})
		}
		for range 5 {
			b.is(t, "rounds", func(s *bridge.Switch) { inTurn(s, max(n, 0)) }, script.Event{Kind: script.Round, N: n, Port: 9})
		}
		if n == 1 && b.played.Quiet() {
			t.Error("that was too fast")
		}
	}
	for _, n := range []int{1000000, 1000001, math.MaxInt} {
		b := newBoth(t, plans()[2])
		b.opened(t)
		b.is(t, "a frame", func(s *bridge.Switch) { s.Arrive(0, someFrame(0x020000000001)) }, script.Event{Kind: script.Frame, Bytes: someFrame(0x020000000001)})
		b.is(t, "as many rounds as it takes", untilQuiet, script.Event{Kind: script.Round, N: n}, script.Event{Kind: script.Round, N: n})
	}
}

// There are so many rounds at most, also where there is more to do.
func TestPlayRoundsAtMost(t *testing.T) {
	p := planOf(2, 0, book.Size{Shards: 8, Buckets: 16, Slots: 8})
	var orders []script.Event
	for range 600 {
		orders = append(orders, ordered(model.Op{Kind: model.Flush, Port: -1, Vid: -1}))
	}
	told := newSwitch(t, p)
	script.Play(told, orders)
	inTurn(told, 999999)
	for _, n := range []int{999999, 1000000, 1000001, math.MaxInt} {
		played := newSwitch(t, p)
		script.Play(played, append(orders, script.Event{Kind: script.Round, N: n}))
		if n == 1000000 {
			inTurn(told, 1)
		}
		if played.Quiet() {
			t.Fatal("there is nothing more to do")
		}
		alike(t, "rounds", played, told)
	}
}

func TestPlayNothing(t *testing.T) {
	all := []script.Event{
		{Kind: script.Pick}, {Kind: script.Frame, Bytes: someFrame(2)}, {Kind: script.Tick, N: 1}, {Kind: script.Sweep}, {Kind: script.Order, Op: model.Op{Kind: model.SetState}}, {Kind: script.Change, N: 1}, {Kind: script.Round, N: math.MaxInt}, {Kind: script.Round, N: -1},
	}
	script.Play(nil, all)
	script.Play(&bridge.Switch{}, all)
	script.Play(nil, nil)
	b := newBoth(t, plans()[1])
	b.is(t, "nothing", func(s *bridge.Switch) {})
	for _, kind := range []int{-1, 7, 8, 15, math.MaxInt, math.MinInt, 1 << 32} {
		b.is(t, "another Kind", func(s *bridge.Switch) {}, script.Event{Kind: kind, N: 1, Bytes: someFrame(2), Op: model.Op{Kind: model.SetState}})
	}
}

// What is handed in isn't kept or changed.
func TestPlayKeepsNothing(t *testing.T) {
	s := newSwitch(t, plans()[2])
	whole := append(make([]byte, 0, 90), someFrame(0x020000000001)...)
	l := append(make([]script.Event, 0, 9), script.Event{Kind: script.Frame, Port: 1, Bytes: whole}, ordered(model.Op{Kind: model.Flush, Port: -1, Vid: -1}), script.Event{Kind: script.Round, N: 5})
	was := copied(l)
	script.Play(s, l)
	if !same(l, was) || l[:4][3].Kind != 0 || !bytes.Equal(whole[60:90], make([]byte, 30)) {
		t.Errorf("%+v", l)
	}
	for i := range whole {
		whole[i] = 9
	}
	l[1].Op.Port = 2
	if !bytes.Equal(s.Arrivals()[0].Bytes, was[0].Bytes) || s.Log()[len(s.Log())-1].Op.Port == 2 {
		t.Error("it hangs on what was handed in")
	}
}

// Whatever bytes say, what they do is told just so by the switch's calls, one behind the other, also by their text; it is a right history, and nothing is wrong with it.
func TestPlayAny(t *testing.T) {
	x := &numbers{6}
	sent := 0
	for i := range 60 {
		p := plans()[i%4]
		l := script.Decode(p, opening(x, p, 1500))
		whole, single, told, text := newSwitch(t, p), newSwitch(t, p), newSwitch(t, p), newSwitch(t, p)
		script.Play(whole, l)
		for i := range l {
			script.Play(single, l[i:i+1])
			tell(told, l[i])
		}
		parsed, _, e := script.Parse(script.Print(l))
		script.Play(text, parsed)
		if e != api.OK {
			t.Fatal(e)
		}
		alike(t, "one by one", single, whole)
		alike(t, "told", told, whole)
		alike(t, "as text", text, whole)
		right(t, p, whole)
		if word := audit.Judge(audit.Of(p, whole)); word != "" {
			t.Fatal(word)
		}
		script.Play(whole, []script.Event{{Kind: script.Round, N: whole.Rounds()}})
		if !whole.Quiet() {
			t.Fatal("it isn't Quiet")
		}
		right(t, p, whole)
		if word := audit.Judge(audit.Of(p, whole)); word != "" {
			t.Fatal(word)
		}
		sent += len(whole.Out())
	}
	if sent == 0 {
		t.Error("nothing went out")
	}
}

// opening are any bytes, but that those ahead make ports Forwarding, and that most others are picks.
func opening(x *numbers, p model.Plan, n int) []byte {
	var b []byte
	for i := range p.Ports {
		b = append(b, 230, byte(i), port.Forwarding)
	}
	for len(b) < n {
		b = append(b, x.bytes(1+x.below(12))...)
		for range x.below(40) {
			b = append(b, byte(x.below(160)))
		}
	}
	return b
}

// tell does by a switch's calls what an Event says.
func tell(s *bridge.Switch, e script.Event) {
	switch {
	case e.Kind == 0:
		s.Pick(e.N)
	case e.Kind == 1:
		s.Arrive(e.Port, e.Bytes)
	case e.Kind == 2:
		s.Tick(uint32(e.N))
	case e.Kind == 3:
		s.Sweep()
	case e.Kind == 4:
		e.Op.Now = s.Now()
		s.Order(e.Op)
	case e.Kind == 5:
		s.Change(e.N == 1)
	}
}

// The greatest plan, by bytes that say much of it.
func TestPlayGreatest(t *testing.T) {
	p := plans()[4]
	p.Vlans[0].Untagged = vlan.All(64)
	x := &numbers{7}
	s := newSwitch(t, p)
	script.Play(s, script.Decode(p, opening(x, p, 4000)))
	right(t, p, s)
	script.Play(s, []script.Event{{Kind: script.Round, N: 1000000}})
	right(t, p, s)
	if word := audit.Judge(audit.Of(p, s)); word != "" || !s.Quiet() || len(s.Out()) == 0 {
		t.Error(word, s.Quiet(), len(s.Out()))
	}
}
