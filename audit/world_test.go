package audit_test

import (
	"bytes"
	"slices"
	"testing"

	"patchbay/api"
	"patchbay/audit"
	"patchbay/book"
	"patchbay/bridge"
	"patchbay/frame"
	"patchbay/hist"
	"patchbay/ingress"
	"patchbay/key"
	"patchbay/mac"
	"patchbay/model"
	"patchbay/port"
	"patchbay/turn"
	"patchbay/vlan"
)

const (
	station   = mac.Mac(0x020000000000) // of station 0: of others so many more
	broadcast = mac.Mac(0xffffffffffff)
)

// planOf is a plan of so many ports: VLAN 1 has all of them, 2 all but the first one.
func planOf(ports, ring int) model.Plan {
	p := model.Plan{Ports: ports, Size: book.Size{Shards: 2, Buckets: 1, Slots: 2}, Tries: 2, Ring: ring, Normal: 30, Short: 5}
	for range ports {
		p.Rules = append(p.Rules, vlan.Rule{Pvid: 1})
	}
	p.Vlans = []vlan.Vlan{{Vid: 1, Members: vlan.All(ports), Untagged: 5 & vlan.All(ports)}, {Vid: 2, Members: vlan.All(ports) &^ 1, Untagged: 2}}
	return p
}

// bytesOf is a frame's bytes: without a tag if vid is 0.
func bytesOf(dst, src mac.Mac, vid int) []byte {
	f := frame.Frame{Dst: dst, Src: src, Type: 0x800, Tagged: vid > 0, Tci: uint16(vid)}
	b, e := frame.Write(f)
	if e != api.OK {
		panic(e)
	}
	return b
}

func newSwitch(t *testing.T, p model.Plan) *bridge.Switch {
	t.Helper()
	s, e := bridge.New(p, 1e9, 1e9)
	if e != api.OK {
		t.Fatal(e)
	}
	for i := range p.Ports {
		s.Order(model.Op{Kind: model.SetState, Port: i, State: port.Forwarding})
	}
	settle(t, s)
	return s
}

func settle(t *testing.T, s *bridge.Switch) {
	t.Helper()
	for range s.Rounds() {
		for k := range s.Tasks() {
			s.Pick(k)
		}
		if s.Quiet() {
			return
		}
	}
	t.Fatal("it isn't quiet")
}

// numbers are made one out of another one.
type numbers struct{ seed uint64 }

// below is one of 0 to n - 1.
func (x *numbers) below(n int) int {
	x.seed = turn.Mix(x.seed)
	return int(x.seed >> 1 % uint64(n))
}

// something: an event from outside, or none.
func something(s *bridge.Switch, x *numbers, p model.Plan) {
	switch x.below(30) {
	case 0, 1, 2, 3, 4:
		dst := []mac.Mac{broadcast, station + mac.Mac(x.below(4)), station + mac.Mac(x.below(4))}[x.below(3)]
		s.Arrive(x.below(p.Ports), bytesOf(dst, station+mac.Mac(x.below(4)), x.below(4)))
	case 5:
		s.Tick(uint32(x.below(20)))
	case 6:
		s.Sweep()
	case 7:
		s.Order(model.Op{Kind: model.SetState, Port: x.below(p.Ports), State: min(x.below(8), port.Forwarding)})
	case 8:
		s.Order(model.Op{Kind: model.SetVlan, Vid: 1 + x.below(2), Members: vlan.Set(turn.Mix(x.seed)), Untagged: vlan.Set(turn.Mix(x.seed + 1))})
	case 9:
		s.Order(model.Op{Kind: []int{model.Order, model.Drop, model.Flush}[x.below(3)], Key: key.Key{Vid: 1, Mac: station}, Port: x.below(p.Ports), Vid: -1})
	}
}

// full is a switch that did something of each kind, and isn't quiet.
func full(t *testing.T, p model.Plan) *bridge.Switch {
	t.Helper()
	s := newSwitch(t, p)
	s.Arrive(0, bytesOf(broadcast, station+1, 0))
	s.Arrive(0, bytesOf(broadcast, station+1, 1))
	settle(t, s)
	s.Arrive(1, bytesOf(station+1, station+2, 0)) // it is found at 0
	s.Arrive(1, bytesOf(station+1, station+2, 1))
	s.Arrive(2, nil)
	s.Arrive(2, bytesOf(broadcast, station+3, 2))
	settle(t, s)
	s.Arrive(2, bytesOf(broadcast, station+3, 0)) // at 0 it is a stranger
	for s.Pick(2) {
	}
	s.Order(model.Op{Kind: model.SetVlan, Vid: 1, Members: 6})
	for s.Pick(s.Tasks() - 1) {
	}
	settle(t, s)
	s.Order(model.Op{Kind: model.SetVlan, Vid: 1, Members: 7, Untagged: 5})
	settle(t, s)
	s.Sweep()
	s.Order(model.Op{Kind: model.SetState, Port: 0, State: port.Blocking})
	for range 4 {
		s.Arrive(1, bytesOf(broadcast, station+2, 0)) // some find no room, some are drained
	}
	for s.Pick(1) {
	}
	settle(t, s)
	s.Arrive(2, bytesOf(broadcast, station+3, 0)) // late at 0
	settle(t, s)
	s.Arrive(1, bytesOf(broadcast, station+2, 1))
	s.Arrive(2, bytesOf(broadcast, station+2, 1))
	for range 18 {
		s.Pick(1)
		s.Pick(2)
		s.Pick(p.Ports + 1)
	}
	return s
}

func sameArrivals(a, b []bridge.Arrival) bool {
	return slices.EqualFunc(a, b, func(a, b bridge.Arrival) bool {
		return a.Port == b.Port && a.Tick == b.Tick && bytes.Equal(a.Bytes, b.Bytes)
	})
}

func sameOut(a, b []bridge.Out) bool {
	return slices.EqualFunc(a, b, func(a, b bridge.Out) bool {
		return a.Id == b.Id && a.From == b.From && a.To == b.To && a.Mark == b.Mark && bytes.Equal(a.Bytes, b.Bytes)
	})
}

func sameDone(a, b []ingress.Done) bool {
	return slices.EqualFunc(a, b, func(a, b ingress.Done) bool {
		return a.Id == b.Id && a.Why == b.Why && a.Vid == b.Vid && a.Learned == b.Learned && a.Found == b.Found && slices.Equal(a.To, b.To) && slices.Equal(a.Full, b.Full)
	})
}

func samePlan(a, b model.Plan) bool {
	return slices.Equal(a.Rules, b.Rules) && slices.Equal(a.Vlans, b.Vlans) && a.Ports == b.Ports && a.Size == b.Size && a.Tries == b.Tries && a.Ring == b.Ring && a.Normal == b.Normal && a.Short == b.Short
}

func same(a, b audit.Report) bool {
	return samePlan(a.Plan, b.Plan) && slices.Equal(a.Log, b.Log) && sameArrivals(a.Came, b.Came) && sameDone(a.Done, b.Done) && sameOut(a.Out, b.Out) && slices.EqualFunc(a.Counts, b.Counts, slices.Equal[[]bridge.Counts])
}

// copied is a report in lists of its own.
func copied(r audit.Report) audit.Report {
	r.Plan.Rules, r.Plan.Vlans = slices.Clone(r.Plan.Rules), slices.Clone(r.Plan.Vlans)
	r.Log, r.Came, r.Done, r.Out, r.Counts = slices.Clone(r.Log), slices.Clone(r.Came), slices.Clone(r.Done), slices.Clone(r.Out), slices.Clone(r.Counts)
	for i := range r.Came {
		r.Came[i].Bytes = slices.Clone(r.Came[i].Bytes)
	}
	for i := range r.Done {
		r.Done[i].To, r.Done[i].Full = slices.Clone(r.Done[i].To), slices.Clone(r.Done[i].Full)
	}
	for i := range r.Out {
		r.Out[i].Bytes = slices.Clone(r.Out[i].Bytes)
	}
	for i := range r.Counts {
		r.Counts[i] = slices.Clone(r.Counts[i])
	}
	return r
}

// plainly judges as the chapter's table says, row by row, each entry by itself.
func plainly(r audit.Report) string {
	if model.Check(r.Plan) != api.OK {
		return "plan"
	}
	for _, e := range r.Log {
		if e.Begin < 0 || e.Mark < 0 || e.Mark > 0 && e.Mark <= e.Begin || e.End < 0 || e.End > 0 && e.End < e.Mark || e.End > 0 && e.Mark == 0 {
			return "times"
		}
	}
	for i, a := range r.Log {
		for k, b := range r.Log {
			if i == k {
				continue
			}
			first := a.Begin < b.Begin || a.Begin == b.Begin && (a.End != 0 && (b.End == 0 || a.End < b.End) || a.End == b.End && i < k)
			if a.Mark > 0 && a.Mark == b.Mark || a.Who == b.Who && first && (a.End == 0 || a.End > b.Begin) {
				return "busy"
			}
		}
	}
	if _, i := hist.Replay(r.Plan, r.Log); i != -1 {
		return "answers"
	}
	for i, d := range r.Done {
		if d.Id < 0 || d.Id >= len(r.Came) || slices.ContainsFunc(r.Done[:i], func(x ingress.Done) bool { return x.Id == d.Id }) {
			return "done"
		}
	}
	for _, word := range []string{"stranger", "reflected", "refused", "found", "twice", "order", "bytes"} {
		for i, o := range r.Out {
			if isSo(word, r, r.Out[:i], o) {
				return word
			}
		}
	}
	if plainCounts(r) {
		return "counts"
	}
	return ""
}

// isSo: is a row's word so of an Out that is behind others?
func isSo(word string, r audit.Report, ahead []bridge.Out, o bridge.Out) bool {
	switch word {
	case "stranger":
		return o.Id < 0 || o.Id >= len(r.Came) || o.From != r.Came[o.Id].Port || o.To < 0 || o.To >= r.Plan.Ports
	case "reflected":
		return o.From == o.To
	case "refused":
		return slices.ContainsFunc(r.Done, func(d ingress.Done) bool { return d.Id == o.Id && d.Why != api.Taken })
	case "found":
		return slices.ContainsFunc(r.Done, func(d ingress.Done) bool { return d.Id == o.Id && d.Found >= 0 && d.Found != o.To })
	case "twice":
		return slices.ContainsFunc(ahead, func(x bridge.Out) bool { return x.Id == o.Id && x.To == o.To })
	case "order":
		return slices.ContainsFunc(ahead, func(x bridge.Out) bool { return x.From == o.From && x.To == o.To && o.Id < x.Id })
	}
	for _, e := range r.Log {
		if e.Op.Kind == model.Send && e.Op.To == o.To && e.Mark == o.Mark {
			b, err := frame.Out(r.Came[o.Id].Bytes, e.Answer == model.Tagged, e.Op.Vid)
			return e.Answer != model.Tagged && e.Answer != model.Bare || err != api.OK || !bytes.Equal(b, o.Bytes)
		}
	}
	return true
}

func plainCounts(r audit.Report) bool {
	if len(r.Counts) != r.Plan.Ports {
		return true
	}
	for from, l := range r.Counts {
		if len(l) != r.Plan.Ports {
			return true
		}
		for to, c := range l {
			if plainPair(r, from, to, c) {
				return true
			}
		}
	}
	return false
}

func plainPair(r audit.Report, from, to int, c bridge.Counts) bool {
	var is bridge.Counts
	gets := 0
	for _, e := range r.Log {
		if e.Op.Port != from || e.Op.To != to || e.End == 0 {
			continue
		}
		switch {
		case e.Op.Kind == model.Put && e.Answer == 0:
			is.Offered++
			is.Full++
		case e.Op.Kind == model.Put:
			is.Offered++
		case e.Op.Kind == model.Get && e.Who == 2*r.Plan.Ports+1:
			is.Drained++
			gets++
		case e.Op.Kind == model.Get:
			gets++
		}
	}
	for _, o := range r.Out {
		if o.From == from && o.To == to {
			is.Sent++
		}
	}
	if is.Offered != c.Offered || is.Full != c.Full || is.Sent != c.Sent || is.Drained != c.Drained || c.Late < 0 || c.Waits < 0 {
		return true
	}
	// Numbers as great as these can't be right, and their sum may come round.
	if c.Late > 1<<40 || c.Waits > 1<<40 {
		return true
	}
	return c.Offered < c.Full+c.Sent+c.Late+c.Drained+c.Waits || gets < c.Sent+c.Late+c.Drained
}
