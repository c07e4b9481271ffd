package ctl_test

import (
	"slices"
	"testing"

	"patchbay/book"
	"patchbay/ctl"
	"patchbay/hist"
	"patchbay/key"
	"patchbay/model"
	"patchbay/port"
	"patchbay/turn"
	"patchbay/vlan"
)

// Who does what in a crowd.
const (
	ordering = iota // carries out orders
	reading         // reads Stands and Members
	looking         // looks up, learns, sweeps
	holding         // has ports' locks
	putting         // puts into rings, each from a port of its own
)

// roles are what each one of a crowd does.
var roles = []int{ordering, reading, putting, looking, ordering, holding, putting, reading, ordering, holding}

// putsFrom is from which port each one who puts does so.
var putsFrom = map[int]int{2: 0, 6: 1}

// crowd is some at once on one fabric, each with a role.
type crowd struct {
	*world
	x     *numbers
	next  int             // the number that is put next
	sets  map[int]waiting // of a SetState under way, by who: what waited for the port
	waits int             // how often somebody waited for a lock in vain
}

type waiting struct {
	o   model.Op
	ids []int
}

// waits are the numbers that wait for a port.
func (w *world) waiting(to int) []int {
	var l []int
	for _, q := range w.f.Shape().Queues {
		l = append(l, q[to]...)
	}
	return l
}

func newCrowd(t *testing.T, p model.Plan, seed uint64) *crowd {
	t.Helper()
	c := &crowd{world: newWorld(t, p), x: &numbers{seed}, next: 1, sets: map[int]waiting{}}
	c.fill(c.x)
	for i := range p.Ports {
		if c.x.below(2) == 0 {
			c.do(0, c.command(0, model.Op{Kind: model.SetState, Port: i, State: port.Forwarding}))
		}
	}
	return c
}

// begin is what who does next.
func (c *crowd) begin(who int) job {
	x, p := c.x, c.p
	switch roles[who] {
	case ordering:
		o := x.order(p)
		if o.Kind == model.SetState {
			c.sets[who] = waiting{o, c.waiting(o.Port)}
		}
		return c.command(who, o)
	case reading:
		if x.below(2) == 0 {
			return members(c.f, who, x.vid(p))
		}
		return stand(c.f, who, x.below(p.Ports))
	case looking:
		switch x.below(5) {
		case 0:
			return age(c.f, who, x.below(p.Size.Shards), x.below(p.Size.Buckets), uint32(x.below(60)))
		case 1:
			return lookup(c.f, who, x.station())
		}
		return learn(c.f, who, x.station(), x.below(p.Ports), uint32(x.below(50)))
	case holding:
		return &holder{t: c.t, f: c.f, who: who, p: x.below(p.Ports), from: x.below(p.Ports), vid: x.vid(p)}
	}
	c.next++
	return puts(c.f, who, putsFrom[who], x.below(p.Ports), c.next)
}

// pick: who goes on, or begins the next thing; one that has no VLAN to read of begins nothing.
func (c *crowd) pick(who int) {
	c.t.Helper()
	if c.jobs[who] == nil {
		c.jobs[who] = c.begin(who)
	}
	c.goOn(who)
}

func (c *crowd) goOn(who int) {
	c.t.Helper()
	if h, ok := c.jobs[who].(*holder); ok {
		defer func(was int) { c.waits += h.waits - was }(h.waits)
	}
	if d, ok := c.jobs[who].(*did); ok && d.entry.Op.Kind == model.GetMembers && len(c.p.Vlans) == 0 {
		delete(c.jobs, who)
		return
	}
	if c.step(who) {
		c.drained(who)
	}
}

// drained: behind a SetState to another state than Forwarding nothing waits any more of what waited ahead of it.
func (c *crowd) drained(who int) {
	c.t.Helper()
	was, ok := c.sets[who]
	delete(c.sets, who)
	if !ok || was.o.State == port.Forwarding {
		return
	}
	for _, id := range c.waiting(was.o.Port) {
		if slices.Contains(was.ids, id) {
			c.t.Fatalf("behind %+v %d waits yet", was.o, id)
		}
	}
}

// finish does all that is under way, in turn.
func (c *crowd) finish() {
	c.t.Helper()
	for range 20000 {
		for who := range roles {
			if c.jobs[who] != nil {
				c.goOn(who)
			}
		}
	}
	c.quiet()
}

// kindsIn is how often each Kind was done.
func (w *world) kindsIn(all map[int]int) {
	for _, e := range w.log() {
		all[e.Op.Kind]++
	}
}

// Whatever is picked: all is a right history at any time, and behind all it stands as the model has it.
func TestWhateverIsPicked(t *testing.T) {
	kinds, waits, gets := map[int]int{}, 0, 0
	for seed := range uint64(90) {
		c := newCrowd(t, small()[seed%3], seed)
		n := len(roles)
		picks := [][]int{turn.Mixed(n, 1500, seed), turn.Bursts(n, 1500, 2+int(seed%20), seed), turn.Round(n, 1500)}[seed/3%3]
		for i, who := range picks {
			c.pick(who)
			if i%7 == 0 {
				c.right()
			}
		}
		c.finish()
		c.kindsIn(kinds)
		waits += c.waits
		for who, role := range roles {
			for _, e := range c.logs[who] {
				gets += number(role == ordering && e.Op.Kind == model.Get)
			}
		}
	}
	for kind := range 13 {
		if kinds[kind] == 0 {
			t.Error("never of Kind", kind)
		}
	}
	if waits == 0 || gets == 0 {
		t.Error(waits, gets)
	}
}

// The greatest plan, too.
func TestWhateverIsPickedOfTheGreatest(t *testing.T) {
	c := newCrowd(t, plans()[3], 5)
	for i, who := range turn.Mixed(len(roles), 6000, 5) {
		c.pick(who)
		if i%1000 == 0 {
			c.right()
		}
	}
	c.finish()
}

// Two orders, and one who reads, take their first steps in all ways there are, by the digits of a number.
func TestAllWaysOfTwoOrders(t *testing.T) {
	p := planOf(2, 1, small()[0].Size, 1)
	p.Vlans[0] = vlan.Vlan{Vid: 1, Members: 1, Untagged: 1}
	orders := []model.Op{
		{Kind: model.SetState, State: port.Forwarding}, {Kind: model.SetState, State: port.Blocking}, {Kind: model.SetVlan, Vid: 1, Members: 3, Untagged: 2},
		{Kind: model.SetVlan, Vid: 1, Members: 2, Untagged: 2}, {Kind: model.Flush, Port: -1, Vid: -1}, {Kind: model.Order, Key: (&numbers{1}).station(), Port: 1},
	}
	const ways = 3 * 3 * 3 * 3 * 3 * 3 * 3
	for i := range orders {
		for j := range i + 1 {
			for way := range ways {
				w := newWorld(t, p)
				w.do(3, puts(w.f, 3, 1, 0, 5))
				w.jobs[0], w.jobs[1] = w.command(0, orders[i]), w.command(1, orders[j])
				w.jobs[2] = &holder{t: t, f: w.f, who: 2, vid: 1, from: 1}
				for digits := ways + way; digits > 0; digits /= 3 {
					if who := digits % 3; w.jobs[who] != nil {
						w.step(who)
					}
				}
				w.right()
				for range 200 {
					for who := range 3 {
						if w.jobs[who] != nil {
							w.step(who)
						}
					}
				}
				w.quiet()
			}
		}
	}
}

// Of n orders and Lookups of several whos, stepped in turn, all are over within n times Bound rounds, whoever else reads between.
func TestInTurnWithinTheBound(t *testing.T) {
	for seed := range uint64(120) {
		x := &numbers{seed}
		p := small()[seed%3]
		w := newWorld(t, p)
		w.fill(x)
		whos := 1 + x.below(9)
		left := make([]int, whos)
		n := 0
		for who := range left {
			left[who] = 1 + x.below(4)
			n += left[who]
		}
		rounds := n * ctl.Bound(p)
		for ; rounds > 0 && (slices.Max(left) > 0 || len(w.jobs) > 0); rounds-- {
			for who := range left {
				if w.jobs[who] == nil && left[who] > 0 {
					left[who]--
					w.jobs[who] = w.next(x, who, seed)
				}
				if w.jobs[who] != nil {
					w.step(who)
				}
				w.do(100, stand(w.f, 100, x.below(p.Ports)))
			}
		}
		w.quiet()
	}
}

// next is an order or a Lookup; of some seeds orders alone that meet each other most.
func (w *world) next(x *numbers, who int, seed uint64) job {
	if x.below(4) == 0 {
		return lookup(w.f, who, x.station())
	}
	o := x.order(w.p)
	if seed%2 == 0 && len(w.p.Vlans) > 0 {
		o.Kind = []int{model.SetVlan, model.SetState}[x.below(2)]
		o.Vid, o.Port = 1, w.p.Ports-1
	}
	return w.command(who, o)
}

// Orders that stand still behind each of their steps, but the last: what others read meanwhile is as if they hadn't been, or had.
func TestOrdersThatStandStill(t *testing.T) {
	p := planOf(3, 2, small()[1].Size, 2)
	for _, o := range []model.Op{{Kind: model.SetState, Port: 1, State: port.Forwarding}, {Kind: model.SetState, Port: 1, State: port.Blocking}, {Kind: model.SetVlan, Vid: 2, Members: 6, Untagged: 4}, {Kind: model.SetVlan, Vid: 2, Members: 5, Untagged: 5}} {
		for at := 0; ; at++ {
			w := newWorld(t, p)
			w.do(3, puts(w.f, 3, 0, 1, 5))
			w.do(3, puts(w.f, 3, 2, 1, 6))
			w.jobs[0] = w.command(0, o)
			for range at {
				if w.step(0) {
					break
				}
			}
			over := w.jobs[0] == nil
			for i := range 3 {
				w.do(1, stand(w.f, 1, i))
			}
			for i := range 2 {
				w.do(1, members(w.f, 1, 1+i))
			}
			w.do(3, puts(w.f, 3, 0, 1, 7))
			w.right()
			if over {
				break
			}
			for !w.step(0) {
			}
			w.quiet()
		}
	}
}

// Orders that change entries stand still behind each of their steps: a Lookup that is over meanwhile answers by what took effect.
func TestEntriesThatAreBeingChanged(t *testing.T) {
	p := planOf(3, 2, book.Size{Shards: 2, Buckets: 2, Slots: 1}, 2)
	x := &numbers{1}
	k, far := x.station(), x.station()
	for far == k {
		far = x.station()
	}
	changed := 0
	for _, o := range []model.Op{{Kind: model.Order, Key: k, Port: 2}, {Kind: model.Flush, Port: -1, Vid: -1}, {Kind: model.Drop, Key: far}} {
		for at := range ctl.Bound(p) {
			w := newWorld(t, p)
			w.do(1, learn(w.f, 1, k, 0, 5))
			w.do(1, w.command(1, model.Op{Kind: model.Order, Key: far, Port: 1}))
			w.jobs[0] = w.command(0, o)
			for range at {
				if w.jobs[0] != nil {
					w.step(0)
				}
			}
			for who, k := range []key.Key{k, far} {
				w.jobs[5+who] = lookup(w.f, 5+who, k)
				for range 100 {
					if w.jobs[5+who] != nil && w.step(5+who) {
						was := w.logs[5+who][0].Answer
						changed += number(w.jobs[0] != nil && was != who)
					}
				}
				w.right()
			}
			for who := range 100 {
				for range 100 {
					if w.jobs[who] != nil {
						w.step(who)
					}
				}
			}
			w.quiet()
		}
	}
	if changed == 0 {
		t.Error("no Lookup saw what an order that wasn't over had changed")
	}
}

// Locks are taken by who gives the order, and by nobody else.
func TestWhoTakesLocks(t *testing.T) {
	p := plans()[2]
	for _, o := range []model.Op{{Kind: model.Order, Key: (&numbers{1}).station()}, {Kind: model.Drop, Key: (&numbers{1}).station()}, {Kind: model.Flush}, {Kind: model.SetState, Port: 3}, {Kind: model.SetVlan, Vid: 1}} {
		w := newWorld(t, p)
		w.jobs[77] = w.command(77, o)
		had := false
		for !w.step(77) {
			for l := range w.f.Mem().Locks() {
				who := w.f.Mem().Holder(l)
				had = had || who == 77
				if who != 77 && who != -1 {
					t.Fatalf("%+v: a lock is %d's", o, who)
				}
			}
		}
		if !had {
			t.Errorf("%+v without a lock", o)
		}
	}
}

// The answers of two orders that change one port tell in which order they took effect.
func TestEpochsOfOrdersThatMeet(t *testing.T) {
	for seed := range uint64(50) {
		w := newWorld(t, plans()[1])
		const whos = 6
		for who := range whos {
			w.jobs[who] = w.command(who, model.Op{Kind: model.SetState, Port: 2, State: who % 5})
		}
		for _, who := range slices.Concat(turn.Bursts(whos, 60, 3, seed), turn.Round(whos, 600)) {
			if w.jobs[who] != nil {
				w.step(who)
			}
		}
		w.quiet()
		var l []hist.Entry
		for who := range whos {
			l = append(l, w.logs[who][0])
		}
		slices.SortFunc(l, func(a, b hist.Entry) int { return a.Mark - b.Mark })
		for i, e := range l {
			if e.Answer != i+1 {
				t.Fatalf("%+v", l)
			}
		}
		if s := w.f.Stand(2); s.Epoch != whos || s.State != l[whos-1].Op.State {
			t.Fatalf("%+v, %+v", s, l)
		}
	}
}
