package egress_test

import (
	"math"
	"slices"
	"testing"

	"patchbay/api"
	"patchbay/ctl"
	"patchbay/egress"
	"patchbay/hist"
	"patchbay/ingress"
	"patchbay/model"
	"patchbay/port"
	"patchbay/vlan"
)

func TestNew(t *testing.T) {
	f, _ := ctl.Make(plans()[2])
	now := f.Mem().Time()
	for _, c := range []struct {
		f      *ctl.Fabric
		p, who int
		e      api.Errno
	}{
		{f, 0, 0, api.OK}, {f, 2, math.MaxInt, api.OK}, {nil, 0, 0, api.ErrArg}, {nil, -1, -1, api.ErrArg}, {f, 0, -1, api.ErrArg}, {f, 9, math.MinInt, api.ErrArg},
		{f, -1, 0, api.ErrPort}, {f, 3, 0, api.ErrPort}, {f, 64, 0, api.ErrPort}, {f, math.MaxInt, 0, api.ErrPort}, {f, math.MinInt, 0, api.ErrPort}, {&ctl.Fabric{}, 0, 0, api.ErrPort},
	} {
		x, e := egress.New(c.f, c.p, c.who)
		if e != c.e || (x != nil) != (e == api.OK) {
			t.Errorf("%d, %d: %v, %d", c.p, c.who, x != nil, e)
		}
		if x != nil && (!x.Idle() || x.Waits() || !x.Step() || len(x.Sent()) != 0 || len(x.Log()) != 0) {
			t.Errorf("%d, %d: isn't idle", c.p, c.who)
		}
	}
	if f.Mem().Time() != now {
		t.Error("New made steps")
	}
}

func TestBound(t *testing.T) {
	for i, want := range []int{48, 48, 56, 72, 544} {
		f, _ := ctl.Make(plans()[i])
		if n := egress.Bound(f); n != want {
			t.Errorf("plan %d: %d, not %d", i, n, want)
		}
	}
	if egress.Bound(nil) != 0 {
		t.Error(egress.Bound(nil))
	}
}

func TestNil(t *testing.T) {
	for _, x := range []*egress.Egress{nil, {}} {
		if !x.Step() || !x.Idle() || x.Waits() || len(x.Sent()) != 0 || len(x.Log()) != 0 {
			t.Error("a nil Egress")
		}
	}
	egress.Bound(&ctl.Fabric{})
}

// What comes of a number, by the port's state and its place in the VLAN; the chapter's example among it.
func TestWhatComesOfIt(t *testing.T) {
	p := planOf(3, 2, 2)
	for _, c := range []struct {
		state, vid         int
		members, untagged  vlan.Set
		want, steps, other int
	}{
		{port.Forwarding, 1, 7, 2, model.Bare, 3, 0}, {port.Forwarding, 1, 2, 2, model.Bare, 3, 0}, {port.Forwarding, 1, 7, 5, model.Tagged, 3, 0}, {port.Forwarding, 1, 2, 0, model.Tagged, 3, 0},
		{port.Forwarding, 1, 5, 5, model.Stranger, 2, 0}, {port.Forwarding, 1, 0, 0, model.Stranger, 2, 0}, {port.Forwarding, 3, 7, 7, model.Stranger, 1, 0}, {port.Forwarding, 0, 7, 7, model.Stranger, 1, 0},
		{port.Forwarding, 4095, 7, 7, model.Stranger, 1, 0}, {port.Learning, 1, 7, 2, model.Shut, 1, 0}, {port.Listening, 1, 7, 7, model.Shut, 1, 0}, {port.Blocking, 3, 7, 7, model.Shut, 1, 0}, {port.Disabled, 1, 0, 0, model.Shut, 1, 0},
	} {
		w := forwarding(t, p)
		w.order(model.Op{Kind: model.SetState, Port: 1, State: c.state})
		w.order(model.Op{Kind: model.SetVlan, Vid: 1, Members: c.members, Untagged: c.untagged})
		ticket := ingress.Ticket(1<<40, c.vid)
		w.puts(0, 1, ticket)
		now := w.f.Mem().Time()
		got := w.next(1)
		// it takes the lock, and the number, and reads as far as it needs to; then the lock is free again
		mark := now + 1 + 4 + c.steps
		if got.Ticket != ticket || got.From != 0 || got.To != 1 || got.How != c.want || got.Mark <= now+5 || got.Mark > mark || w.f.Mem().Time() != mark+3 {
			t.Errorf("%+v: %+v, and %d steps, not %d", c, got, w.f.Mem().Time()-now, mark+3-now)
		}
		w.quiet()
	}
}

// Numbers are taken in turn of rings, from the first one on at first: as a plain lane, and a model, do.
func TestAlone(t *testing.T) {
	hows := map[int]int{}
	for seed := range uint64(80) {
		x := &numbers{seed}
		p := small()[seed%4]
		w := newWorld(t, p)
		m, _ := model.New(p)
		at, cursor := x.below(p.Ports), 0
		for range 12 {
			w.fill(x, at)
			w.order(x.order(p))
			w.order(model.Op{Kind: model.SetState, Port: x.below(p.Ports), State: port.Forwarding})
			m, _ = hist.Replay(p, w.log())
			for range x.below(7) {
				if !w.out[at].Waits() {
					break
				}
				for len(m.Queue(cursor, at)) == 0 {
					cursor = (cursor + 1) % p.Ports
				}
				ticket := m.Do(model.Op{Kind: model.Get, Port: cursor, To: at})
				want := egress.Sent{Ticket: ticket, From: cursor, To: at, How: m.Do(model.Op{Kind: model.Send, To: at, Vid: ticket % 4096})}
				got := w.next(at)
				want.Mark = got.Mark
				if got != want {
					t.Fatalf("%+v, not %+v", got, want)
				}
				cursor = (cursor + 1) % p.Ports
				hows[got.How]++
			}
			w.quiet()
		}
	}
	for how := range 4 {
		if hows[how] == 0 {
			t.Error("never", how)
		}
	}
}

// All rings of the greatest plan, each full.
func TestTheGreatest(t *testing.T) {
	w := forwarding(t, plans()[4])
	for from := range w.p.Ports {
		for i := range w.p.Ring {
			w.puts(from, 63, ingress.Ticket(100*from+i, 1))
		}
	}
	for i := range w.p.Ring {
		for from := range w.p.Ports {
			if s := w.next(63); s.From != from || ingress.Id(s.Ticket) != 100*from+i || s.How != model.Tagged {
				t.Fatalf("%+v", s)
			}
		}
	}
	// one in the ring that is looked at last
	w.puts(62, 0, ingress.Ticket(5, 2))
	w.puts(63, 0, ingress.Ticket(6, 2))
	if s := w.next(0); s.From != 62 {
		t.Errorf("%+v", s)
	}
	w.puts(62, 0, ingress.Ticket(7, 2))
	if s := w.next(0); s.From != 63 {
		t.Errorf("%+v", s)
	}
	if s := w.next(0); s.From != 62 || w.out[0].Waits() {
		t.Errorf("%+v", s)
	}
	w.quiet()
}

// Waits looks at all rings to the port, and at no others.
func TestWaits(t *testing.T) {
	for from := range 3 {
		for to := range 3 {
			w := newWorld(t, plans()[2])
			w.puts(from, to, 9)
			for at, x := range w.out {
				if x.Waits() != (at == to) || !x.Idle() || at != to && !w.step(at) {
					t.Errorf("%d to %d: at %d", from, to, at)
				}
			}
			w.step(to)
			if !w.out[to].Waits() || w.out[to].Idle() {
				t.Error("it isn't taken yet")
			}
			for !w.step(to) {
			}
			if w.out[to].Waits() {
				t.Error("it was taken")
			}
		}
	}
}

// The lock is another one's: nothing is taken or read till it is free; what is drained meanwhile isn't found any more.
func TestWaitsForTheLock(t *testing.T) {
	for _, drained := range []bool{false, true} {
		w := forwarding(t, plans()[2])
		w.puts(0, 1, ingress.Ticket(5, 1))
		w.puts(2, 1, ingress.Ticket(6, 1))
		if !w.f.Take(1, stranger) {
			t.Fatal("no lock")
		}
		now := w.f.Mem().Time()
		for range 300 {
			if w.step(1) || w.out[1].Idle() || !w.out[1].Waits() || len(w.out[1].Log()) != 0 {
				t.Fatal("it has no lock")
			}
		}
		if w.f.Mem().Time() != now+300 {
			t.Error("a Step that makes none")
		}
		w.f.Free(1, stranger)
		sent := 1
		if drained {
			w.order(model.Op{Kind: model.SetState, Port: 1, State: port.Blocking})
			sent = 0
		}
		for range egress.Bound(w.f) {
			if w.step(1) {
				break
			}
		}
		if !w.out[1].Idle() || len(w.out[1].Sent()) != sent {
			t.Errorf("%v: %+v", drained, w.out[1].Sent())
		}
		w.quiet()
	}
}

// From its first look at a ring to its last one at the VLAN it has the lock.
func TestHasTheLock(t *testing.T) {
	w := forwarding(t, plans()[2])
	w.puts(2, 1, ingress.Ticket(5, 1))
	w.puts(2, 1, ingress.Ticket(6, 1))
	for n := 1; ; n++ {
		idle := w.step(1)
		told := len(w.out[1].Sent()) > 0
		free := w.f.Take(1, stranger)
		w.f.Free(1, stranger)
		for l := range w.f.Mem().Locks() {
			if who := w.f.Mem().Holder(l); who != 101 && who != -1 {
				t.Fatalf("a lock is %d's", who)
			}
		}
		if free && !idle || idle && !free || idle && !told {
			t.Fatalf("behind %d steps: free %v, idle %v", n, free, idle)
		}
		if idle {
			break
		}
	}
	// what happens behind that is of no account
	if len(w.out[1].Sent()) != 1 {
		t.Error(w.out[1].Sent())
	}
}

// What is in the midst of being done is told of without an end.
func TestLogOnTheWay(t *testing.T) {
	w := forwarding(t, plans()[2])
	w.puts(0, 1, ingress.Ticket(5, 2))
	sends := 0
	for !w.step(1) {
		l := w.out[1].Log()
		for i, e := range l {
			if e.End == 0 && (i != len(l)-1 || e.Answer != 0) {
				t.Fatalf("%+v", l)
			}
			sends += number(e.End == 0 && e.Op.Kind == model.Send)
		}
		if len(w.out[1].Sent()) != number(len(l) == 2 && l[1].End != 0) {
			t.Fatalf("%+v: %+v", l, w.out[1].Sent())
		}
		w.right()
	}
	w.quiet()
}

// A number that no Ticket is goes out nowhere, and harms nobody.
func TestStrangeNumbers(t *testing.T) {
	for _, v := range []uint64{1<<64 - 2, 1 << 63, 1<<63 + 4097, 1<<63 - 1} {
		w := forwarding(t, plans()[2])
		for a := w.f.Ring(0, 1).Push(v); !a.Step(); {
		}
		if s := w.next(1); s.Ticket != int(v) || s.How != model.Stranger {
			t.Errorf("%x: %+v", v, s)
		}
	}
}

func TestSharesNothing(t *testing.T) {
	w := forwarding(t, plans()[2])
	w.puts(0, 1, ingress.Ticket(5, 1))
	w.next(1)
	s, l := w.out[1].Sent(), w.out[1].Log()
	was, log := slices.Clone(s), slices.Clone(l)
	s[0].How, l[0].Who = 77, 78
	if !slices.Equal(w.out[1].Sent(), was) || !slices.Equal(w.out[1].Log(), log) {
		t.Error("an answer is shared")
	}
}
