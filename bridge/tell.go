package bridge

import (
	"cmp"
	"slices"

	"patchbay/api"
	"patchbay/egress"
	"patchbay/frame"
	"patchbay/hist"
	"patchbay/ingress"
	"patchbay/model"
)

// Now, Time: the tick, and how many steps there were; Log, Shape: what was done, and what stands.
func (s *Switch) Now() uint32 {
	if s.isNone() {
		return 0
	}
	return s.now
}

func (s *Switch) Time() int {
	if s.isNone() {
		return 0
	}
	return s.f.Mem().Time()
}

func (s *Switch) Log() []hist.Entry {
	if s.isNone() {
		return nil
	}
	var l []hist.Entry
	for _, t := range s.tasks {
		l = append(l, t.Log()...)
	}
	return l
}

func (s *Switch) Shape() model.Shape {
	if s.isNone() {
		return model.Shape{}
	}
	return s.f.Shape()
}

// Arrivals: what came; Done: what became of it, at a port; Out: what went out; Counts, Refused: how many.
func (s *Switch) Arrivals() []Arrival {
	if s.isNone() {
		return nil
	}
	l := slices.Clone(s.came)
	for i, a := range l {
		l[i].Bytes = slices.Clone(a.Bytes)
	}
	return l
}

func (s *Switch) Done(p int) []ingress.Done {
	if !s.isPort(p) {
		return nil
	}
	return s.in[p].Done()
}

func (s *Switch) Out() []Out {
	if s.isNone() {
		return nil
	}
	var l []Out
	for _, x := range s.out {
		for _, n := range x.Sent() {
			if wentOut(n) {
				l = append(l, s.outOf(n))
			}
		}
	}
	slices.SortFunc(l, func(a, b Out) int { return cmp.Compare(a.Mark, b.Mark) })
	return l
}

func wentOut(n egress.Sent) bool { return n.How == model.Bare || n.How == model.Tagged }

// outOf is the frame of a number that went out.
func (s *Switch) outOf(n egress.Sent) Out {
	id := ingress.Id(n.Ticket)
	b, _ := frame.Out(s.came[id].Bytes, n.How == model.Tagged, ingress.Vid(n.Ticket)) // only what can go out is Taken
	return Out{Id: id, From: n.From, To: n.To, Mark: n.Mark, Bytes: b}
}

func (s *Switch) Counts(from, to int) Counts {
	if !s.isPort(from) || !s.isPort(to) {
		return Counts{}
	}
	c := Counts{Waits: s.f.Ring(from, to).Len()}
	for _, e := range s.in[from].Log() {
		if e.Op.Kind != model.Put || e.Op.To != to || e.End == 0 {
			continue
		}
		c.Offered++
		if e.Answer == 0 {
			c.Full++
		}
	}
	for _, n := range s.out[to].Sent() {
		switch {
		case n.From != from:
		case wentOut(n):
			c.Sent++
		default:
			c.Late++
		}
	}
	for _, e := range s.control.Log() {
		if e.Op.Kind == model.Get && e.Op.Port == from && e.Op.To == to {
			c.Drained++
		}
	}
	return c
}

func (s *Switch) Refused(p int) []int {
	if !s.isPort(p) {
		return nil
	}
	l := make([]int, api.Reasons)
	for _, d := range s.in[p].Done() {
		l[d.Why]++
	}
	return l
}
