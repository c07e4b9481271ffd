package bridge_test

import (
	"slices"
	"testing"

	"patchbay/ager"
	"patchbay/api"
	"patchbay/bridge"
	"patchbay/ctl"
	"patchbay/egress"
	"patchbay/fdb"
	"patchbay/frame"
	"patchbay/gauge"
	"patchbay/hist"
	"patchbay/ingress"
	"patchbay/model"
)

// plain is a switch that is put together by hand of the layers below: a Switch is held against it behind each pick.
type plain struct {
	p      model.Plan
	f      *ctl.Fabric
	in     []*ingress.Ingress
	out    []*egress.Egress
	ager   *ager.Ager
	act    *ctl.Act
	orders []model.Op   // that haven't begun
	done   []hist.Entry // of orders that are over
	came   []bridge.Arrival
	begun  []int // of each port: the first of came that may be its next one
	now    uint32
	change bool
	sweeps []hist.Entry // Ages
	age    model.Op
}

func newPlain(p model.Plan, level, most float64) *plain {
	s := &plain{p: p, begun: make([]int, p.Ports)}
	s.f, _ = ctl.Make(p)
	for i := range p.Ports {
		in, _ := ingress.New(s.f, i, i, gauge.New(level, most, 0))
		out, _ := egress.New(s.f, i, p.Ports+i)
		s.in, s.out = append(s.in, in), append(s.out, out)
	}
	s.ager, _ = ager.New(s.f.Fdb(), p.Size, 2*p.Ports)
	return s
}

func (s *plain) Arrive(p int, b []byte) int {
	if p < 0 || p >= s.p.Ports {
		return -1
	}
	s.came = append(s.came, bridge.Arrival{Port: p, Tick: s.now, Bytes: slices.Clone(b)})
	return len(s.came) - 1
}

func (s *plain) Tick(n uint32) { s.now += n }

func (s *plain) Change(on bool) { s.change = on }

func (s *plain) Sweep() bool {
	limit := s.p.Normal
	if s.change {
		limit = min(s.p.Normal, s.p.Short)
	}
	if !s.ager.Idle() {
		return false
	}
	s.age = model.Op{Kind: model.Age, Now: s.now, Limit: limit}
	return s.ager.Begin(s.now, limit)
}

func (s *plain) Order(o model.Op) bool {
	ok := s.f.Command(0, o) != nil
	if ok {
		s.orders = append(s.orders, o)
	}
	return ok
}

// next is the number of the frame that a port does next; -1: none waits.
func (s *plain) next(p int) int {
	for i := s.begun[p]; i < len(s.came); i++ {
		if s.came[i].Port == p {
			return i
		}
	}
	return -1
}

func (s *plain) has(t int) bool {
	n := s.p.Ports
	switch {
	case t < 0 || t > 2*n+1:
		return false
	case t < n:
		return !s.in[t].Idle() || s.next(t) >= 0
	case t < 2*n:
		return !s.out[t-n].Idle() || s.out[t-n].Waits()
	case t == 2*n:
		return !s.ager.Idle()
	}
	return s.act != nil || len(s.orders) > 0
}

func (s *plain) Pick(t int) bool {
	if !s.has(t) {
		return false
	}
	n := s.p.Ports
	switch {
	case t < n:
		if s.in[t].Idle() {
			i := s.next(t)
			s.begun[t] = i + 1
			s.in[t].Begin(i, s.came[i].Bytes, s.came[i].Tick)
		}
		s.in[t].Step()
	case t < 2*n:
		s.out[t-n].Step()
	case t == 2*n:
		s.sweep()
	default:
		s.command()
	}
	return true
}

// sweep: each Age is one of those that Done tells of, or the one that Now tells of.
func (s *plain) sweep() {
	time, had := s.f.Mem().Time(), len(s.ager.Done())
	if _, under := s.ager.Now(); !under {
		s.sweeps = append(s.sweeps, hist.Entry{Who: 2 * s.p.Ports, Begin: time, Op: s.age})
	}
	s.ager.Step()
	last := &s.sweeps[len(s.sweeps)-1]
	is, _ := s.ager.Now()
	if done := s.ager.Done(); len(done) > had {
		is = done[had]
		last.End, last.Answer = s.f.Mem().Time(), is.Gone
	}
	last.Op.Shard, last.Op.Bucket, last.Mark = is.Shard, is.Bucket, is.Mark
}

func (s *plain) command() {
	if s.act == nil {
		s.act = s.f.Command(2*s.p.Ports+1, s.orders[0])
		s.orders = s.orders[1:]
	}
	if s.act.Step() {
		s.done = append(s.done, s.act.Log()...)
		s.act = nil
	}
}

func (s *plain) quiet() bool {
	for t := range 2*s.p.Ports + 2 {
		if s.has(t) {
			return false
		}
	}
	return true
}

func (s *plain) log() []hist.Entry {
	l := slices.Concat(s.sweeps, s.done, s.act.Log())
	for i := range s.p.Ports {
		l = append(l, s.in[i].Log()...)
		l = append(l, s.out[i].Log()...)
	}
	return l
}

func (s *plain) rounds() int {
	e, frames, numbers, orders := egress.Bound(s.f), len(s.came), 0, len(s.orders)
	for from := range s.p.Ports {
		frames -= len(s.in[from].Done())
		for to := range s.p.Ports {
			numbers += s.f.Ring(from, to).Len()
		}
	}
	if s.act != nil {
		orders++
	}
	n := frames * (ingress.Bound(s.f) + s.p.Ports*e)
	n += (numbers + s.p.Ports*2) * e
	n += orders * ctl.Bound(s.p)
	if !s.ager.Idle() {
		n += s.p.Size.Shards * s.p.Size.Buckets * fdb.Bound(s.p.Size, s.p.Tries)
	}
	return n + 64
}

func (s *plain) outs() []bridge.Out {
	var l []bridge.Out
	for _, x := range s.out {
		for _, n := range x.Sent() {
			if n.How < model.Bare {
				continue
			}
			b, e := frame.Out(s.came[n.Ticket/4096].Bytes, n.How == model.Tagged, n.Ticket%4096)
			if e != api.OK {
				panic(e)
			}
			l = append(l, bridge.Out{Id: n.Ticket / 4096, From: n.From, To: n.To, Mark: n.Mark, Bytes: b})
		}
	}
	slices.SortFunc(l, func(a, b bridge.Out) int { return a.Mark - b.Mark })
	return l
}

func (s *plain) counts(from, to int) bridge.Counts {
	c := bridge.Counts{Waits: len(s.f.Ring(from, to).List())}
	for _, e := range s.log() {
		if e.End == 0 || e.Op.Port != from || e.Op.To != to {
			continue
		}
		switch e.Op.Kind {
		case model.Put:
			c.Offered++
			c.Full += 1 - e.Answer
		case model.Get:
			if e.Who == 2*s.p.Ports+1 {
				c.Drained++
			}
		}
	}
	for _, n := range s.out[to].Sent() {
		if n.From == from && n.How >= model.Bare {
			c.Sent++
		} else if n.From == from {
			c.Late++
		}
	}
	return c
}

func (s *plain) refused(p int) []int {
	l := make([]int, 11)
	for _, d := range s.in[p].Done() {
		l[d.Why]++
	}
	return l
}

// sameDone: the lists of a Done may be nil or empty.
func sameDone(a, b []ingress.Done) bool {
	return slices.EqualFunc(a, b, func(a, b ingress.Done) bool {
		return a.Id == b.Id && a.Why == b.Why && a.Vid == b.Vid && a.Learned == b.Learned && a.Found == b.Found && slices.Equal(a.To, b.To) && slices.Equal(a.Full, b.Full)
	})
}

// alike: a Switch tells what the plain one tells.
func alike(t *testing.T, s *bridge.Switch, w *plain) {
	t.Helper()
	switch {
	case !slices.Equal(sorted(s.Log()), sorted(w.log())):
		t.Fatalf("Log: %+v, not %+v", sorted(s.Log()), sorted(w.log()))
	case !same(s.Shape(), w.f.Shape()):
		t.Fatalf("Shape: %+v, not %+v", s.Shape(), w.f.Shape())
	case !sameArrivals(s.Arrivals(), w.came):
		t.Fatalf("Arrivals: %+v, not %+v", s.Arrivals(), w.came)
	case !sameOut(s.Out(), w.outs()):
		t.Fatalf("Out: %+v, not %+v", s.Out(), w.outs())
	case s.Now() != w.now:
		t.Fatalf("Now: %d, not %d", s.Now(), w.now)
	}
	for from := range w.p.Ports {
		if !sameDone(s.Done(from), w.in[from].Done()) {
			t.Fatalf("Done of %d: %+v, not %+v", from, s.Done(from), w.in[from].Done())
		}
		if is := s.Refused(from); !slices.Equal(is, w.refused(from)) {
			t.Fatalf("Refused of %d: %v, not %v", from, is, w.refused(from))
		}
		for to := range w.p.Ports {
			if is := s.Counts(from, to); is != w.counts(from, to) {
				t.Fatalf("Counts of %d, %d: %+v, not %+v", from, to, is, w.counts(from, to))
			}
		}
	}
}

// both are a Switch and a plain one, to which the same is told, and the same is answered.
type both struct {
	t *testing.T
	s *bridge.Switch
	w *plain
}

func (b both) Arrive(p int, l []byte) int {
	is, want := b.s.Arrive(p, l), b.w.Arrive(p, l)
	if is != want {
		b.t.Fatalf("Arrive at %d: %d, not %d", p, is, want)
	}
	return is
}

func (b both) Tick(n uint32) {
	b.s.Tick(n)
	b.w.Tick(n)
}

func (b both) Change(on bool) {
	b.s.Change(on)
	b.w.Change(on)
}

func (b both) Sweep() bool {
	is, want := b.s.Sweep(), b.w.Sweep()
	if is != want {
		b.t.Fatalf("Sweep: %v, not %v", is, want)
	}
	return is
}

func (b both) Order(o model.Op) bool {
	is, want := b.s.Order(o), b.w.Order(o)
	if is != want {
		b.t.Fatalf("Order of %+v: %v, not %v", o, is, want)
	}
	return is
}

func (b both) pick(k int) {
	b.t.Helper()
	if q := b.w.quiet(); b.s.Quiet() != q {
		b.t.Fatalf("Quiet: %v, not %v", !q, q)
	}
	before := b.s.Time()
	is, want := b.s.Pick(k), b.w.Pick(k)
	if is != want {
		b.t.Fatalf("Pick of %d: %v, not %v", k, is, want)
	}
	if n := b.s.Time() - before; n > 1 || n > 0 && !is || b.s.Time() != b.w.f.Mem().Time() {
		b.t.Fatalf("Pick of %d: %v, with %d steps, from %d on, not %d", k, is, n, before, b.w.f.Mem().Time())
	}
}

// A Switch tells what one tells that is put together by hand, whatever comes, and whatever is picked.
func TestAsByHand(t *testing.T) {
	for seed := range uint64(90) {
		x := &numbers{seed}
		p := small()[seed%5]
		level, most := float64(x.below(3))/4, float64(x.below(3))
		b := both{t, newSwitch(t, p, level, most), newPlain(p, level, most)}
		n := 2*p.Ports + 2
		for i := range p.Ports {
			b.Order(model.Op{Kind: model.SetState, Port: i, State: 4 - x.below(2)*x.below(5)})
		}
		for i, k := range picks(x, n+2, 1200) {
			something(b, x, p)
			b.pick(k - 1)
			if i%8 == 0 && b.s.Rounds() != b.w.rounds() {
				t.Fatalf("Rounds: %d, not %d", b.s.Rounds(), b.w.rounds())
			}
			if i%100 == 0 {
				alike(t, b.s, b.w)
			}
		}
		for i := 0; !b.w.quiet(); i++ {
			b.pick(i % n)
		}
		alike(t, b.s, b.w)
		quiet(t, p, b.s)
	}
}
