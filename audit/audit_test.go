package audit_test

import (
	"math"
	"slices"
	"testing"

	"patchbay/api"
	"patchbay/audit"
	"patchbay/bridge"
	"patchbay/hist"
	"patchbay/ingress"
	"patchbay/mac"
	"patchbay/model"
	"patchbay/port"
	"patchbay/turn"
)

func TestOf(t *testing.T) {
	p := planOf(3, 2)
	s := full(t, p)
	want := audit.Report{Plan: p, Log: s.Log(), Came: s.Arrivals(), Done: slices.Concat(s.Done(0), s.Done(1), s.Done(2)), Out: s.Out()}
	for from := range 3 {
		want.Counts = append(want.Counts, []bridge.Counts{s.Counts(from, 0), s.Counts(from, 1), s.Counts(from, 2)})
	}
	if is := audit.Of(p, s); !same(is, want) {
		t.Errorf("%+v, not %+v", is, want)
	}
	for _, s := range []*bridge.Switch{nil, {}} {
		if is := audit.Of(p, s); !same(is, audit.Report{Plan: p}) {
			t.Errorf("of none: %+v", is)
		}
		p.Ports = math.MaxInt
		if is := audit.Of(p, s); !same(is, audit.Report{Plan: p}) {
			t.Errorf("of none: %+v", is)
		}
		p.Ports = 3
	}
	for _, ports := range []int{-1, 0, 2, 4, math.MaxInt, math.MinInt} {
		p.Ports = ports
		audit.Judge(audit.Of(p, s)) // it ends
	}
}

// A switch that did nothing, and what is told of no switch.
func TestOfNothing(t *testing.T) {
	for _, ports := range []int{2, 3, 64} {
		p := planOf(ports, 2)
		s, _ := bridge.New(p, 1, 1)
		if w := audit.Judge(audit.Of(p, s)); w != "" {
			t.Error(w)
		}
		if w := audit.Judge(audit.Of(p, nil)); w != "counts" {
			t.Error(w)
		}
	}
	if w := audit.Judge(audit.Report{}); w != "plan" {
		t.Error(w)
	}
}

// Of a switch, whatever came, and whatever was picked, there is nothing to say.
func TestWhateverComes(t *testing.T) {
	for seed := range uint64(60) {
		x := &numbers{seed}
		p := planOf(2+x.below(4), 1+x.below(3))
		s, _ := bridge.New(p, 1, 2)
		for i := range p.Ports {
			s.Order(model.Op{Kind: model.SetState, Port: i, State: port.Forwarding})
		}
		n := s.Tasks()
		for i, k := range [][]int{turn.Mixed(n, 1200, seed), turn.Bursts(n, 1200, 2+int(seed%30), seed), turn.Round(n, 1200)}[seed%3] {
			something(s, x, p)
			s.Pick(k)
			if i%11 == 0 {
				if w := audit.Judge(audit.Of(p, s)); w != "" {
					t.Fatalf("behind %d picks: %s", i, w)
				}
			}
		}
		settle(t, s)
		if w := audit.Judge(audit.Of(p, s)); w != "" {
			t.Fatalf("when it is quiet: %s", w)
		}
	}
}

// last is the place of the last entry of a Kind that is over.
func last(r audit.Report, kind int) int {
	at := -1
	for i, e := range r.Log {
		if e.Op.Kind == kind && e.End > 0 {
			at = i
		}
	}
	return at
}

// foundOut is the place of the first Out whose frame's destination was found.
func foundOut(r audit.Report) int {
	return slices.IndexFunc(r.Out, func(o bridge.Out) bool {
		return slices.ContainsFunc(r.Done, func(d ingress.Done) bool { return d.Id == o.Id && d.Found >= 0 })
	})
}

// fault is a way to make a report wrong, and what is wrong then.
type fault struct {
	name  string
	spoil func(r *audit.Report)
	word  string
}

func faults() []fault {
	return slices.Concat(planFaults(), logFaults(), outFaults(), countFaults())
}

func planFaults() []fault {
	return []fault{
		{"no ports", func(r *audit.Report) { r.Plan.Ports = 0 }, "plan"}, {"many ports", func(r *audit.Report) { r.Plan.Ports = math.MaxInt }, "plan"},
		{"a rule is missing", func(r *audit.Report) { r.Plan.Rules = r.Plan.Rules[1:] }, "plan"}, {"two VLANs are one", func(r *audit.Report) { r.Plan.Vlans[0].Vid = 2 }, "plan"}, {"no ring", func(r *audit.Report) { r.Plan.Ring = 0 }, "plan"},
	}
}

func logFaults() []fault {
	put := model.Op{Kind: model.Put, Port: 0, To: 1, Id: 5}
	return []fault{
		{"Begin below 0", func(r *audit.Report) { r.Log[3].Begin = -1 }, "times"}, {"Mark below 0", func(r *audit.Report) { r.Log[0].Mark = -1 }, "times"},
		{"Mark at Begin", func(r *audit.Report) { i := last(*r, model.Put); r.Log[i].Mark = r.Log[i].Begin }, "times"}, {"End ahead of Mark", func(r *audit.Report) { i := last(*r, model.Put); r.Log[i].End = r.Log[i].Mark - 1 }, "times"},
		{"over without a Mark", func(r *audit.Report) { r.Log[2].Mark = 0 }, "times"},
		{"a Mark twice", func(r *audit.Report) {
			r.Log = append(r.Log, hist.Entry{Who: 99, Begin: 0, Mark: r.Log[4].Mark, Op: put})
		}, "busy"},
		{"two at once", func(r *audit.Report) {
			r.Log = append(r.Log, hist.Entry{Who: r.Log[4].Who, Begin: r.Log[4].Begin, Op: put})
		}, "busy"},
		{"one ahead isn't over", func(r *audit.Report) { r.Log[1].End = 0 }, "busy"},
		{"a Put is answered otherwise", func(r *audit.Report) { r.Log[last(*r, model.Put)].Answer ^= 1 }, "answers"}, {"a Send is answered otherwise", func(r *audit.Report) { r.Log[last(*r, model.Send)].Answer ^= 1 }, "answers"},
		{"a Learn is of another station", func(r *audit.Report) { r.Log[last(*r, model.Learn)].Op.Key.Mac++ }, "answers"},
	}
}

func outFaults() []fault {
	return []fault{
		{"Done below 0", func(r *audit.Report) { r.Done[1].Id = -1 }, "done"}, {"Done of none that came", func(r *audit.Report) { r.Done[1].Id = len(r.Came) }, "done"}, {"Done twice", func(r *audit.Report) { r.Done = append(r.Done, r.Done[0]) }, "done"},
		{"Out below 0", func(r *audit.Report) { r.Out[0].Id = -1 }, "stranger"}, {"Out of none that came", func(r *audit.Report) { r.Out[1].Id = len(r.Came) }, "stranger"},
		{"From is another port", func(r *audit.Report) { r.Out[2].From = (r.Out[2].From + 1) % 3 }, "stranger"}, {"To below 0", func(r *audit.Report) { r.Out[2].To = -1 }, "stranger"}, {"To is no port", func(r *audit.Report) { r.Out[2].To = 3 }, "stranger"},
		{"it goes where it came", func(r *audit.Report) { r.Out[3].To = r.Out[3].From }, "reflected"},
		{"it was refused", func(r *audit.Report) { refuse(r, r.Out[1].Id, api.Storm) }, "refused"},
		{"it was found elsewhere", func(r *audit.Report) { r.Out[foundOut(*r)].To ^= 2 }, "found"}, {"it was found", func(r *audit.Report) { find(r, r.Out[0].Id, r.Out[0].To^3) }, "found"},
		{"it goes out twice", func(r *audit.Report) { r.Out = append(r.Out, r.Out[0]) }, "twice"}, {"it goes out once more", func(r *audit.Report) { r.Out = append(r.Out, r.Out[len(r.Out)-1]) }, "twice"},
		{"they overtake", func(r *audit.Report) { r.Out[0], r.Out[len(r.Out)-1] = r.Out[len(r.Out)-1], r.Out[0]; overtake(r) }, "order"},
		{"a byte is another one", func(r *audit.Report) { r.Out[0].Bytes[30]++ }, "bytes"}, {"a byte more", func(r *audit.Report) { r.Out[0].Bytes = append(r.Out[0].Bytes, 0) }, "bytes"}, {"no bytes", func(r *audit.Report) { r.Out[0].Bytes = nil }, "bytes"},
		{"it was shut", func(r *audit.Report) { goOut(r, model.Send, model.Shut) }, "bytes"}, {"it was a stranger", func(r *audit.Report) { goOut(r, model.Send, model.Stranger) }, "bytes"}, {"by no Send", func(r *audit.Report) { goOut(r, model.SetState, 2) }, "bytes"},
		{"another Mark", func(r *audit.Report) { r.Out[0].Mark++ }, "bytes"}, {"another frame's bytes", func(r *audit.Report) { r.Came[r.Out[0].Id].Bytes[20]++ }, "bytes"}, {"it came with no frame's bytes", func(r *audit.Report) { r.Came[r.Out[0].Id].Bytes = nil }, "bytes"},
		{"nothing goes out of nothing", func(r *audit.Report) { r.Came[r.Out[0].Id].Bytes, r.Out[0].Bytes = nil, nil }, "bytes"},
	}
}

func countFaults() []fault {
	change := func(add bridge.Counts) func(r *audit.Report) {
		return func(r *audit.Report) {
			c := &r.Counts[1][2]
			*c = bridge.Counts{Offered: c.Offered + add.Offered, Full: c.Full + add.Full, Sent: c.Sent + add.Sent, Late: c.Late + add.Late, Drained: c.Drained + add.Drained, Waits: c.Waits + add.Waits}
		}
	}
	return []fault{
		{"a list is missing", func(r *audit.Report) { r.Counts = r.Counts[1:] }, "counts"}, {"a list more", func(r *audit.Report) { r.Counts = append(r.Counts, r.Counts[0]) }, "counts"}, {"no lists", func(r *audit.Report) { r.Counts = nil }, "counts"},
		{"a pair is missing", func(r *audit.Report) { r.Counts[2] = r.Counts[2][:2] }, "counts"}, {"a pair more", func(r *audit.Report) { r.Counts[0] = append(r.Counts[0], bridge.Counts{}) }, "counts"},
		{"Offered more", change(bridge.Counts{Offered: 1}), "counts"}, {"Offered less", change(bridge.Counts{Offered: -1, Waits: -1}), "counts"}, {"Full more", change(bridge.Counts{Full: 1}), "counts"}, {"Full less", change(bridge.Counts{Full: -1}), "counts"},
		{"Sent more", change(bridge.Counts{Sent: 1}), "counts"}, {"Sent less", change(bridge.Counts{Sent: -1}), "counts"}, {"Drained more", change(bridge.Counts{Drained: 1}), "counts"},
		{"Late below 0", change(bridge.Counts{Late: -1}), "counts"}, {"Late more", change(bridge.Counts{Late: 1}), "counts"}, {"Late for Waits", change(bridge.Counts{Late: 1, Waits: -1}), "counts"}, {"Waits more", change(bridge.Counts{Waits: 5}), "counts"}, {"Waits below 0", func(r *audit.Report) { r.Counts[0][0].Waits = -1 }, "counts"},
		{"Late comes round", change(bridge.Counts{Late: math.MaxInt}), "counts"}, {"Waits comes round", func(r *audit.Report) { r.Counts[1][2].Waits = math.MaxInt }, "counts"}, {"an Out is missing", func(r *audit.Report) { r.Out = r.Out[1:] }, "counts"},
	}
}

// goOut has the last frame go out, without a tag, at the Mark of the first entry of a Kind that answers so; it came at port 2, and goes to 0.
func goOut(r *audit.Report, kind, answer int) {
	i := slices.IndexFunc(r.Log, func(e hist.Entry) bool {
		return e.Op.Kind == kind && e.Op.To == 0 && e.Answer == answer && e.Mark > 0
	})
	id := len(r.Came)
	r.Came = append(r.Came, bridge.Arrival{Port: 2, Bytes: bytesOf(broadcast, station, 0)})
	r.Out = append(r.Out, bridge.Out{Id: id, From: 2, To: 0, Mark: r.Log[i].Mark, Bytes: bytesOf(broadcast, station, 0)})
}

func refuse(r *audit.Report, id int, why api.Why) {
	for i := range r.Done {
		if r.Done[i].Id == id {
			r.Done[i].Why = why
		}
	}
}

func find(r *audit.Report, id, found int) {
	for i := range r.Done {
		if r.Done[i].Id == id {
			r.Done[i].Found = found
		}
	}
}

// overtake orders Outs so that of the first pair that has two the later one is ahead.
func overtake(r *audit.Report) {
	slices.SortFunc(r.Out, func(a, b bridge.Out) int { return b.Id - a.Id })
}

// Each row by itself, and each two: the row that stands ahead is told.
func TestRows(t *testing.T) {
	p := planOf(3, 2)
	s := full(t, p)
	rows := []string{"plan", "times", "busy", "answers", "done", "stranger", "reflected", "refused", "found", "twice", "order", "bytes", "counts", ""}
	had := map[string]bool{}
	for _, a := range faults() {
		r := audit.Of(p, s)
		a.spoil(&r)
		if w := audit.Judge(r); w != a.word || w != plainly(r) {
			t.Errorf("%s: %q, not %q, nor %q", a.name, w, a.word, plainly(r))
		}
		had[a.word] = true
		for _, b := range faults() {
			r := audit.Of(p, s)
			if slices.Index(rows, a.word) <= slices.Index(rows, b.word) {
				continue
			}
			a.spoil(&r)
			b.spoil(&r)
			if w := audit.Judge(r); w != b.word {
				t.Errorf("%s, and %s: %q, not %q", a.name, b.name, w, b.word)
			}
		}
	}
	for _, w := range rows[:13] {
		if !had[w] {
			t.Errorf("no fault is %s", w)
		}
	}
}

// What is at the edge of a row, and isn't wrong.
func TestEdges(t *testing.T) {
	p := planOf(3, 2)
	s := full(t, p)
	bare, tagged := "bytes", ""
	if len(s.Out()[0].Bytes) == api.MinFrame {
		bare, tagged = "", "bytes"
	}
	for i, c := range []struct {
		spoil func(r *audit.Report)
		word  string
	}{
		{func(r *audit.Report) {}, ""},
		{func(r *audit.Report) { slices.Reverse(r.Log) }, ""}, // it is ordered first
		{func(r *audit.Report) { slices.Reverse(r.Done) }, ""},
		{func(r *audit.Report) { r.Done = nil }, ""}, // of none of them it is told that it is over
		{func(r *audit.Report) { find(r, r.Out[0].Id, r.Out[0].To) }, "found"}, {func(r *audit.Report) { find(r, r.Out[0].Id, -1) }, ""}, {func(r *audit.Report) { find(r, r.Out[0].Id, -2) }, ""},
		{func(r *audit.Report) { refuse(r, 4, api.Storm) }, ""}, // another reason of one that didn't go out
		{func(r *audit.Report) { r.Done[0].Learned, r.Done[0].Vid, r.Done[0].To = 77, -5, []int{9} }, ""},
		{func(r *audit.Report) { cameAt(r, r.Out[0].Id, 99) }, "counts"}, {func(r *audit.Report) { cameAt(r, r.Out[0].Id, -1) }, "counts"}, // where there is no port
		{func(r *audit.Report) { r.Out[0].Mark = 0; sendsAtOnce(r, model.Bare, model.Tagged) }, bare}, {func(r *audit.Report) { r.Out[0].Mark = 0; sendsAtOnce(r, model.Tagged, model.Bare) }, tagged},
		{func(r *audit.Report) { r.Came[0].Tick = 99 }, ""}, {func(r *audit.Report) { r.Came[4].Bytes = []byte{1} }, ""},
		{func(r *audit.Report) { r.Log = append(r.Log, hist.Entry{Who: 99}) }, ""}, // it hasn't taken effect
		{func(r *audit.Report) {
			r.Log = append(r.Log, hist.Entry{Who: 99, Op: model.Op{Kind: model.Send, To: r.Out[0].To, Vid: 9}, Answer: 3})
		}, ""}, // with no Out's Mark
		{func(r *audit.Report) {
			r.Log = append(r.Log, hist.Entry{Who: 99, Begin: s.Time(), Op: model.Op{Kind: model.Put, To: 1}})
		}, ""}, // it isn't over
		{func(r *audit.Report) {
			r.Log = append(r.Log, hist.Entry{Who: 7, Begin: s.Time(), Op: model.Op{Kind: model.Get, Port: 2, To: 1}})
		}, ""}, // it isn't over
		{func(r *audit.Report) { again(r, s, 99, model.Op{Kind: model.Get, Port: 0, To: 2}, -1) }, ""},      // one more Get
		{func(r *audit.Report) { again(r, s, 7, model.Op{Kind: model.Get, Port: 0, To: 2}, -1) }, "counts"}, // of who orders
		{func(r *audit.Report) { again(r, s, 99, model.Op{Kind: model.Put, Port: 2, To: 2}, 1) }, "counts"}, // one more Put
		{func(r *audit.Report) { again(r, s, 99, model.Op{Kind: model.Put, Port: 2, To: 3}, -1) }, ""},      // to no port
		{func(r *audit.Report) {
			again(r, s, 99, model.Op{Kind: model.Get, Port: 0, To: 1}, -1)
			r.Counts[0][1].Late++
		}, "counts"}, // Late, but not Offered
		{func(r *audit.Report) {
			again(r, s, 99, model.Op{Kind: model.Put, Port: 2, To: 0}, 1)
			r.Counts[2][0].Offered++
		}, ""}, // taken, or so
		{func(r *audit.Report) {
			again(r, s, 99, model.Op{Kind: model.Put, Port: 2, To: 0}, 1)
			r.Counts[2][0].Offered++
			r.Counts[2][0].Waits++
		}, ""}, // it waits
		{func(r *audit.Report) {
			again(r, s, 99, model.Op{Kind: model.Put, Port: 2, To: 0}, 1)
			r.Counts[2][0].Offered++
			r.Counts[2][0].Late++
		}, "counts"}, // there is no Get
		{func(r *audit.Report) {
			again(r, s, 99, model.Op{Kind: model.Put, Port: 2, To: 0}, 1)
			r.Counts[2][0] = bridge.Counts{Offered: 99, Late: 1}
		}, "counts"}, // as many as there aren't
	} {
		r := audit.Of(p, s)
		c.spoil(&r)
		if w := audit.Judge(r); w != c.word || w != plainly(r) {
			t.Errorf("%d: %q, not %q, nor %q", i, w, c.word, plainly(r))
		}
	}
}

// cameAt: a frame came at another port.
func cameAt(r *audit.Report, id, at int) {
	r.Came[id].Port = at
	for i := range r.Out {
		if r.Out[i].Id == id {
			r.Out[i].From = at
		}
	}
}

// sendsAtOnce: of the first Out's port two Sends are told, that aren't over, with these answers.
func sendsAtOnce(r *audit.Report, answers ...int) {
	for i, a := range answers {
		r.Log = append(r.Log, hist.Entry{Who: 98 + i, Op: model.Op{Kind: model.Send, To: r.Out[0].To, Vid: 1}, Answer: a})
	}
}

// again: somebody did one thing more.
func again(r *audit.Report, s *bridge.Switch, who int, o model.Op, answer int) {
	n := s.Time()
	r.Log = append(r.Log, hist.Entry{Who: who, Begin: n, Mark: n + 1, End: n + 2, Op: o, Answer: answer})
}

// The chapter's example.
func TestExample(t *testing.T) {
	p := planOf(2, 4)
	s := newSwitch(t, p)
	s.Arrive(0, bytesOf(broadcast, station, 0))
	settle(t, s)
	r := audit.Of(p, s)
	if w := audit.Judge(r); w != "" {
		t.Error(w)
	}
	r.Out[0].To = 0
	if w := audit.Judge(r); w != "reflected" {
		t.Error(w)
	}
}

// Reports in which some numbers are others: as plainly judged.
func TestMixedFaults(t *testing.T) {
	p := planOf(3, 2)
	s := full(t, p)
	words := map[string]int{}
	for seed := range uint64(6000) {
		x := &numbers{seed}
		r := audit.Of(p, s)
		for range 1 + x.below(3) {
			mix(&r, x)
		}
		w, want := audit.Judge(r), plainly(r)
		if w != want {
			t.Fatalf("seed %d: %q, not %q", seed, w, want)
		}
		words[w]++
	}
	for _, w := range []string{"times", "busy", "answers", "done", "stranger", "reflected", "refused", "found", "twice", "order", "bytes", "counts", ""} {
		if words[w] == 0 {
			t.Errorf("never %q", w)
		}
	}
}

// mix changes one number of a report.
func mix(r *audit.Report, x *numbers) {
	n := x.below(6) - 2
	e, d, o := &r.Log[x.below(len(r.Log))], &r.Done[x.below(len(r.Done))], &r.Out[x.below(len(r.Out))]
	c := &r.Counts[x.below(3)][x.below(3)]
	switch x.below(24) {
	case 0:
		e.Begin += n
	case 1:
		e.Mark += n
	case 2:
		e.End += n
	case 3:
		e.End = 0
	case 4:
		e.Answer += n
	case 5:
		e.Who += n
	case 6:
		e.Op.Id += n
	case 7:
		e.Op.Port += n
	case 8:
		d.Id += n
	case 9:
		d.Why += api.Why(n)
	case 10, 11:
		d.Found += n
	case 12:
		o.Id += n
	case 13:
		o.From += n
	case 14, 15:
		o.To = x.below(3)
	case 16:
		o.Mark += n
	case 17:
		o.Bytes[x.below(len(o.Bytes))] += byte(n)
	case 18:
		*o = r.Out[x.below(len(r.Out))]
	case 19:
		r.Out[0], *o = *o, r.Out[0]
	case 20:
		c.Late += n
	case 21:
		c.Waits += n
	case 22:
		c.Sent += n
	case 23:
		c.Full += n
	}
}

func TestSums(t *testing.T) {
	if is := audit.Sums(audit.Report{}); is != (bridge.Counts{}) {
		t.Errorf("%+v", is)
	}
	r := audit.Report{Counts: [][]bridge.Counts{{{Offered: 1, Full: 20, Sent: 300, Late: 4000, Drained: 50000, Waits: 600000}}, nil, {{Offered: 2, Full: 10, Sent: 100, Late: 1000, Drained: 10000, Waits: -100000}, {Offered: 3}}}}
	if is := audit.Sums(r); is != (bridge.Counts{Offered: 6, Full: 30, Sent: 400, Late: 5000, Drained: 60000, Waits: 500000}) {
		t.Errorf("%+v", is)
	}
	p := planOf(3, 2)
	is := audit.Sums(audit.Of(p, full(t, p)))
	if is.Full == 0 || is.Sent == 0 || is.Late == 0 || is.Drained == 0 || is.Waits == 0 || is.Offered < is.Full+is.Sent+is.Late+is.Drained+is.Waits {
		t.Errorf("%+v", is)
	}
}

// What is handed in isn't kept or changed, and answers are new memory.
func TestMemory(t *testing.T) {
	p := planOf(3, 2)
	s := full(t, p)
	r := audit.Of(p, s)
	want := copied(r)
	if w := audit.Judge(r); w != "" {
		t.Error(w)
	}
	r.Log = slices.Grow(r.Log, 9)
	slices.Reverse(r.Log)
	slices.Reverse(want.Log)
	audit.Judge(r)
	audit.Sums(r)
	if !same(r, want) {
		t.Error("what is handed in is changed")
	}
	slices.Reverse(want.Log)
	clear(r.Plan.Rules)
	clear(r.Plan.Vlans)
	clear(r.Log)
	for _, a := range r.Came {
		clear(a.Bytes)
	}
	for _, o := range r.Out {
		clear(o.Bytes)
	}
	for _, d := range r.Done {
		clear(d.To)
		clear(d.Full)
	}
	for _, l := range r.Counts {
		clear(l)
	}
	clear(r.Came)
	clear(r.Out)
	clear(r.Done)
	clear(r.Counts)
	if !same(audit.Of(p, s), want) || audit.Judge(audit.Of(p, s)) != "" {
		t.Error("an answer isn't new memory")
	}
	none := audit.Of(p, nil)
	clear(none.Plan.Rules)
	if !samePlan(p, planOf(3, 2)) {
		t.Error("the plan is kept")
	}
}

// Of a long report it doesn't take as long as its square tells.
func TestLong(t *testing.T) {
	p := planOf(4, 8)
	s := newSwitch(t, p)
	for i := range 6000 {
		s.Arrive(i%4, bytesOf(broadcast, station+mac.Mac(i%4), 0))
		if i%16 == 15 {
			settle(t, s)
		}
	}
	r := audit.Of(p, s)
	if w := audit.Judge(r); w != "" || len(r.Out) != 18000 {
		t.Error(w, len(r.Out))
	}
}
