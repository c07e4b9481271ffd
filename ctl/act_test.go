package ctl_test

import (
	"math"
	"slices"
	"testing"

	"patchbay/bucket"
	"patchbay/ctl"
	"patchbay/hist"
	"patchbay/key"
	"patchbay/mac"
	"patchbay/model"
	"patchbay/port"
	"patchbay/vlan"
)

// What can't be an order, and what can just so.
func TestCommandsThatCantBe(t *testing.T) {
	k := (&numbers{1}).station()
	for _, p := range small() {
		f := fabric(t, p)
		now := f.Mem().Time()
		can := func(who int, o model.Op, want bool) {
			t.Helper()
			if a := f.Command(who, o); (a != nil) != want {
				t.Errorf("%+v by %d: %v", o, who, a != nil)
			}
		}
		good := []model.Op{
			{Kind: model.Order, Key: k, Port: p.Ports - 1}, {Kind: model.Drop, Key: k, Port: -1, State: 9}, {Kind: model.Flush, Port: -7, Vid: 9000},
			{Kind: model.SetState, Port: p.Ports - 1, State: port.Forwarding, Vid: -1}, {Kind: model.SetState},
		}
		for _, v := range p.Vlans {
			good = append(good, model.Op{Kind: model.SetVlan, Vid: v.Vid, Port: -1, Members: ^vlan.Set(0), Untagged: ^vlan.Set(0)})
		}
		for _, o := range good {
			can(0, o, true)
			can(math.MaxInt, o, true)
			can(-1, o, false)
			can(math.MinInt, o, false)
		}
		for kind := -2; kind < 20; kind++ {
			if !slices.Contains([]int{model.Order, model.Drop, model.Flush, model.SetState, model.SetVlan}, kind) {
				can(0, model.Op{Kind: kind, Key: k, Vid: 1}, false)
			}
		}
		for _, wrong := range []key.Key{{}, {Vid: 1}, {Mac: k.Mac}, {Vid: 4095, Mac: k.Mac}, {Vid: 1, Mac: 1 << 40}, {Vid: 1, Mac: k.Mac | 1<<48}} {
			can(0, model.Op{Kind: model.Order, Key: wrong}, false)
			can(0, model.Op{Kind: model.Drop, Key: wrong}, false)
		}
		for _, i := range []int{-1, p.Ports, 63, 64, math.MaxInt, math.MinInt} {
			can(0, model.Op{Kind: model.Order, Key: k, Port: i}, false)
			can(0, model.Op{Kind: model.SetState, Port: i}, false)
		}
		for _, state := range []int{-1, 5, math.MaxInt, math.MinInt} {
			can(0, model.Op{Kind: model.SetState, State: state}, false)
		}
		for _, vid := range []int{0, -1, len(p.Vlans) + 1, 4095} {
			can(0, model.Op{Kind: model.SetVlan, Vid: vid}, false)
		}
		if f.Mem().Time() != now {
			t.Error("Command made steps")
		}
	}
}

// alone does an order that nobody else meets: within Bound, by one step a Step; its Log begins with it.
func (w *world) alone(who int, o model.Op) (*ctl.Act, []hist.Entry) {
	w.t.Helper()
	began := w.f.Mem().Time()
	a := w.command(who, o)
	if l := a.Log(); len(l) != 1 || l[0] != (hist.Entry{Who: who, Begin: began, Op: o}) {
		w.t.Fatalf("begun: %+v", l)
	}
	w.jobs[who] = a
	for steps := 1; !w.step(who); steps++ {
		if steps >= ctl.Bound(w.p) {
			w.t.Fatalf("%+v isn't over within Bound", o)
		}
	}
	now, l := w.f.Mem().Time(), a.Log()
	if l[0].Who != who || l[0].Begin != began || l[0].Op != o || l[0].Mark <= began || l[0].End < l[0].Mark || l[0].Answer != a.Answer() {
		w.t.Fatalf("over: %+v", l[0])
	}
	if !a.Step() || !a.Over() || a.Answer() != l[0].Answer || !slices.Equal(a.Log(), l) || w.f.Mem().Time() != now {
		w.t.Fatalf("%+v goes on when it is over", o)
	}
	return a, l
}

// One order behind the other answers, and leaves all, as the model does.
func TestOrdersAlone(t *testing.T) {
	answers := map[[2]int]int{}
	for seed := range uint64(60) {
		p := small()[seed%3]
		x := &numbers{seed}
		w := newWorld(t, p)
		w.fill(x)
		m, _ := hist.Replay(p, w.log())
		for range 40 {
			if x.below(3) == 0 {
				o := model.Op{Kind: model.Learn, Key: x.station(), Port: x.below(p.Ports), Now: uint32(x.below(9))}
				w.do(1, learn(w.f, 1, o.Key, o.Port, o.Now))
				m.Do(o)
			}
			o := x.order(p)
			a, l := w.alone(2, o)
			want := m.Do(o)
			for _, e := range l[1:] {
				if got := m.Do(e.Op); got != e.Answer {
					t.Fatalf("%+v: took %d, not %d", o, e.Answer, got)
				}
			}
			if a.Answer() != want {
				t.Fatalf("%+v: %d, not %d", o, a.Answer(), want)
			}
			answers[[2]int{o.Kind, want}]++
			if o.Kind != model.SetState && len(l) != 1 {
				t.Fatalf("%+v: %+v", o, l)
			}
			if got := w.f.Shape(); !same(got, m.Shape()) {
				t.Fatalf("behind %+v: %+v, not %+v", o, got, m.Shape())
			}
			w.quiet()
		}
	}
	for _, want := range [][2]int{{model.Order, bucket.New}, {model.Order, bucket.Kept}, {model.Order, bucket.Moved}, {model.Order, bucket.Evicted}, {model.Order, bucket.Refused}, {model.Drop, 0}, {model.Drop, 1}, {model.Flush, 0}, {model.Flush, 1}, {model.SetState, 3}, {model.SetVlan, 1}} {
		if answers[want] == 0 {
			t.Errorf("of Kind %d never %d", want[0], want[1])
		}
	}
}

// Within Bound, too, where all is as great as it may be.
func TestGreatestOrdersAlone(t *testing.T) {
	p := plans()[3]
	w := newWorld(t, p)
	for from := range p.Ports {
		for n := range p.Ring {
			w.do(1, puts(w.f, 1, from, 63, 100*from+n+1))
		}
	}
	_, l := w.alone(2, model.Op{Kind: model.SetState, Port: 63, State: port.Blocking})
	if len(l) != 1+64*64 || l[0].Answer != 1 || l[64].Op.Port != 0 || l[64].Answer != 64 || l[65].Op.Port != 1 || l[65].Answer != 101 || l[64*64].Answer != 6364 {
		t.Fatalf("%d entries: %+v", len(l), l[:3])
	}
	w.alone(2, model.Op{Kind: model.SetVlan, Vid: 16, Members: vlan.All(64)})
	for i := range 3000 {
		w.do(1, learn(w.f, 1, key.Key{Vid: 1, Mac: mac.Mac(0x020000000002 + 2*i)}, i%64, 5))
	}
	if a, _ := w.alone(2, model.Op{Kind: model.Flush, Port: -1, Vid: -1}); a.Answer() < 900 {
		t.Error(a.Answer())
	}
	w.quiet()
}

// A SetState takes what waits, port by port, first things first; to Forwarding it takes nothing.
func TestSetStateTakesWhatWaits(t *testing.T) {
	for _, p := range small() {
		for to := range p.Ports {
			for state := range 5 {
				x := &numbers{uint64(10*to + state)}
				w := newWorld(t, p)
				w.fill(x)
				before := w.f.Shape()
				_, l := w.alone(7, model.Op{Kind: model.SetState, Port: to, State: state, Members: 3})
				var want []hist.Entry
				if state != port.Forwarding {
					for from := range p.Ports {
						for _, id := range before.Queues[from][to] {
							want = append(want, hist.Entry{Who: 7, Op: model.Op{Kind: model.Get, Port: from, To: to}, Answer: id})
						}
						before.Queues[from][to] = nil
					}
				}
				before.Stands[to] = port.Stand{State: state, Epoch: 1}
				if !same(w.f.Shape(), before) {
					t.Fatalf("port %d to %d: %+v, not %+v", to, state, w.f.Shape(), before)
				}
				ahead := l[0].End
				for i, e := range l[1:] {
					if e.Begin < ahead || e.Mark <= e.Begin || e.End < e.Mark {
						t.Fatalf("port %d to %d: times of %+v", to, state, e)
					}
					ahead = e.End
					l[1+i].Begin, l[1+i].Mark, l[1+i].End = 0, 0, 0
				}
				if !slices.Equal(l[1:], want) {
					t.Fatalf("port %d to %d: %+v, not %+v", to, state, l[1:], want)
				}
				w.quiet()
			}
		}
	}
}

// The chapter's example.
func TestExample(t *testing.T) {
	w := newWorld(t, plans()[1])
	w.do(0, puts(w.f, 0, 0, 1, 7))
	_, l := w.alone(1, model.Op{Kind: model.SetState, Port: 1, State: port.Blocking})
	if len(l) != 2 || l[0].Op.Kind != model.SetState || l[0].Answer != 1 || l[1].Op != (model.Op{Kind: model.Get, Port: 0, To: 1}) || l[1].Answer != 7 {
		t.Errorf("%+v", l)
	}
}

// What comes into a ring while it is emptied is taken, too; what comes where it was already stays.
func TestNumbersThatComeMeanwhile(t *testing.T) {
	p := planOf(3, 1, plans()[0].Size, 4)
	w := newWorld(t, p)
	for from := range 3 {
		w.do(20+from, puts(w.f, 20+from, from, 1, 10*from))
	}
	w.jobs[1] = w.command(1, model.Op{Kind: model.SetState, Port: 1, State: port.Learning})
	came := 0
	for n := 0; !w.step(1); n++ {
		s := w.f.Shape()
		if came == 0 && len(s.Queues[0][1]) == 0 && len(s.Queues[1][1]) == 1 {
			w.do(20, puts(w.f, 20, 0, 1, 1)) // it is still there, as it hasn't found nothing there yet
			w.do(22, puts(w.f, 22, 2, 1, 21))
			came = 1
		}
		if came == 1 && len(s.Queues[1][1]) == 0 {
			w.do(20, puts(w.f, 20, 0, 1, 2))
			came = 2
		}
		w.right()
	}
	var took []int
	for _, e := range w.logs[1][1:] {
		took = append(took, e.Answer)
	}
	if !slices.Equal(took, []int{0, 1, 10, 20, 21}) || !slices.Equal(w.f.Shape().Queues[0][1], []int{2}) {
		t.Error(took, w.f.Shape().Queues)
	}
	w.quiet()
}

// Somebody's lock is waited for: nothing is changed, and nothing taken, till it is free.
func TestOrdersWaitForLocks(t *testing.T) {
	p := plans()[2]
	for held := range p.Ports {
		for _, o := range []model.Op{{Kind: model.SetState, Port: held, State: 2}, {Kind: model.SetVlan, Vid: 2, Members: 9, Untagged: 1}} {
			w := newWorld(t, p)
			w.fill(&numbers{uint64(held)})
			w.f.Take(held, stranger)
			was, now := w.f.Shape(), w.f.Mem().Time()
			a := w.command(1, o)
			w.jobs[1] = a
			for range 500 {
				if w.step(1) {
					t.Fatalf("%+v is over, and port %d's lock is another one's", o, held)
				}
			}
			if l := a.Log(); len(l) != 1 || l[0] != (hist.Entry{Who: 1, Begin: now, Op: o}) || !same(w.f.Shape(), was) || w.f.Mem().Time() != now+500 {
				t.Fatalf("%+v: %+v", o, l)
			}
			w.f.Free(held, stranger)
			for range ctl.Bound(p) {
				if w.step(1) {
					break
				}
			}
			w.quiet()
		}
	}
	// Others' locks are no hindrance to a SetState.
	w := newWorld(t, p)
	for i := range p.Ports {
		if i != 2 {
			w.f.Take(i, stranger)
		}
	}
	w.alone(1, model.Op{Kind: model.SetState, Port: 2, State: 1})
}

// Whenever an order changes what ports' locks keep it has these locks, and a SetState no others.
func TestOrdersHaveTheirLocks(t *testing.T) {
	p := plans()[2]
	for seed := range uint64(30) {
		x := &numbers{seed}
		w := newWorld(t, p)
		w.fill(x)
		for range 10 {
			o := x.order(p)
			w.jobs[1] = w.command(1, o)
			was := w.f.Shape()
			for !w.step(1) {
				is := w.f.Shape()
				changed := !same(was, is) && (o.Kind == model.SetState || o.Kind == model.SetVlan)
				was = is
				for i := range p.Ports {
					needs := o.Kind == model.SetVlan || o.Kind == model.SetState && i == o.Port
					mine := !w.f.Take(i, stranger)
					if !mine {
						w.f.Free(i, stranger)
					}
					if changed && needs && !mine || mine && !needs {
						t.Fatalf("%+v: port %d's lock: %v", o, i, mine)
					}
				}
			}
			if !same(was, w.f.Shape()) {
				t.Fatalf("%+v changed something with its last step", o)
			}
			w.quiet()
		}
	}
}

// Somebody takes from the ring against the rule: an order waits till that is over, and leaves nothing.
func TestSomebodyElsesPop(t *testing.T) {
	p := plans()[1]
	w := newWorld(t, p)
	r := w.f.Ring(0, 1)
	for id := range 2 {
		for a := r.Push(uint64(5 + id)); !a.Step(); {
		}
	}
	pop := r.Pop()
	a := w.command(1, model.Op{Kind: model.SetState, Port: 1, State: 1})
	for range 50 {
		a.Step()
	}
	for !pop.Step() {
	}
	for range ctl.Bound(p) {
		a.Step()
	}
	if l := a.Log(); !a.Over() || len(l) != 2 || l[1].Answer != 6 || r.Len() != 0 {
		t.Error(a.Over(), l)
	}
}
