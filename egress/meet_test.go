package egress_test

import (
	"testing"

	"patchbay/ingress"
	"patchbay/model"
	"patchbay/port"
	"patchbay/turn"
)

// pick: who goes on, or begins the next thing: the ports' Egresses, who puts from each port, the orders.
func (w *world) pick(x *numbers, who int) {
	n := w.p.Ports
	switch {
	case who < n:
		w.step(who)
	case who < 2*n:
		from := who - n
		if w.offers[from] == nil {
			w.id++
			w.offer(from, x.below(n), x.ticket(w.p, w.id))
		}
		w.goOnPutting(from)
	default:
		if w.act == nil {
			w.command(x.order(w.p))
		}
		w.goOnOrdering()
	}
}

// finish does all that is under way, and all that waits, in turn.
func (w *world) finish() {
	w.t.Helper()
	for range 20000 {
		idle := w.act == nil || w.goOnOrdering()
		for at := range w.p.Ports {
			if w.offers[at] != nil {
				idle = w.goOnPutting(at) && idle
			}
			idle = w.step(at) && !w.out[at].Waits() && idle
		}
		if idle {
			w.quiet()
			return
		}
	}
	w.t.Fatal("there is no end")
}

// Whatever is picked: a right history at any time; nothing goes out where a port is shut.
func TestWhateverIsPicked(t *testing.T) {
	hows, drained, behind := map[int]int{}, 0, 0
	for seed := range uint64(120) {
		x := &numbers{seed}
		p := small()[seed%4]
		w := newWorld(t, p)
		for i := range p.Ports {
			w.order(model.Op{Kind: model.SetState, Port: i, State: 4 * x.below(2)})
		}
		n := 2*p.Ports + 1
		for i, who := range [][]int{turn.Mixed(n, 1500, seed), turn.Bursts(n, 1500, 2+int(seed%20), seed), turn.Round(n, 1500)}[seed/4%3] {
			w.pick(x, who)
			if i%9 == 0 {
				w.right()
			}
		}
		w.finish()
		for at, out := range w.out {
			for _, s := range out.Sent() {
				hows[s.How]++
				behind += number(s.From != at)
			}
		}
		for _, e := range w.orders {
			drained += number(e.Op.Kind == model.Get)
		}
	}
	for how := range 4 {
		if hows[how] == 0 {
			t.Error("never", how)
		}
	}
	if drained == 0 || behind == 0 {
		t.Error(drained, behind)
	}
}

// An Egress and an order meet, in all ways of some of their steps: what goes out does so ahead of a SetState, in time, and by one and the same Members and Untagged.
func TestAllWaysWithAnOrder(t *testing.T) {
	const ways = 1 << 11
	p := planOf(2, 1, 1)
	p.Vlans[0].Members, p.Vlans[0].Untagged = 3, 0
	for _, c := range []struct {
		o             model.Op
		ahead, behind int
	}{
		{model.Op{Kind: model.SetState, Port: 1, State: port.Blocking}, model.Tagged, -1}, {model.Op{Kind: model.SetState, Port: 1, State: port.Forwarding}, model.Tagged, model.Tagged},
		{model.Op{Kind: model.SetState, Port: 0, State: port.Blocking}, model.Tagged, model.Tagged},
		{model.Op{Kind: model.SetVlan, Vid: 1, Members: 1, Untagged: 1}, model.Tagged, model.Stranger}, {model.Op{Kind: model.SetVlan, Vid: 1, Members: 2, Untagged: 2}, model.Tagged, model.Bare},
	} {
		seen := map[int]int{}
		for way := range ways {
			w := forwarding(t, p)
			w.puts(0, 1, ingress.Ticket(5, 1))
			w.command(c.o)
			for bits := ways + way; bits > 0; bits /= 2 {
				if bits%2 == 0 {
					w.step(1)
				} else if w.act != nil {
					w.goOnOrdering()
				}
			}
			w.finish()
			how := -1 // it was drained
			mark := 0
			if s := w.out[1].Sent(); len(s) == 1 {
				how, mark = s[0].How, s[0].Mark
			}
			want := c.ahead
			if how == -1 || mark > w.orders[len(w.orders)-1].Mark || c.o.Kind == model.SetVlan && mark > w.orders[2].Mark {
				want = c.behind
			}
			if how != want {
				t.Fatalf("%+v: %d, not %d", c.o, how, want)
			}
			seen[how]++
		}
		if seen[c.ahead] == 0 || seen[c.behind] == 0 {
			t.Errorf("%+v: %v", c.o, seen)
		}
	}
}

// Once a SetState to another state is over each number that comes is Shut, till one to Forwarding is begun.
func TestShut(t *testing.T) {
	for state := range 4 {
		w := forwarding(t, plans()[3])
		x := &numbers{uint64(state)}
		w.fill(x, 2)
		w.order(model.Op{Kind: model.SetState, Port: 2, State: state})
		if w.out[2].Waits() {
			t.Fatal("what waited waits yet")
		}
		w.fill(x, 2)
		for n := 0; w.out[2].Waits(); n++ {
			if s := w.next(2); s.How != model.Shut {
				t.Fatalf("%+v", s)
			}
			w.order(model.Op{Kind: model.SetVlan, Vid: 1 + n%3, Members: 31, Untagged: 4})
		}
		w.order(model.Op{Kind: model.SetState, Port: 2, State: port.Forwarding})
		w.puts(1, 2, ingress.Ticket(9, 1))
		if s := w.next(2); s.How != model.Bare {
			t.Fatalf("%+v", s)
		}
		w.quiet()
	}
}

// The greatest plan, all at once.
func TestTheGreatestAtOnce(t *testing.T) {
	w := forwarding(t, plans()[4])
	x := &numbers{7}
	for i, who := range turn.Mixed(2*w.p.Ports+1, 20000, 7) {
		w.pick(x, who)
		if i%4000 == 0 {
			w.right()
		}
	}
	w.finish()
}
