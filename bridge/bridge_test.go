package bridge_test

import (
	"bytes"
	"math"
	"slices"
	"testing"

	"patchbay/api"
	"patchbay/book"
	"patchbay/bridge"
	"patchbay/ctl"
	"patchbay/egress"
	"patchbay/fdb"
	"patchbay/frame"
	"patchbay/hist"
	"patchbay/ingress"
	"patchbay/key"
	"patchbay/mac"
	"patchbay/model"
	"patchbay/port"
	"patchbay/vlan"
)

// The chapter's example.
func TestExample(t *testing.T) {
	p := model.Plan{Ports: 2, Rules: []vlan.Rule{{Pvid: 1}, {Pvid: 1}}, Vlans: []vlan.Vlan{{Vid: 1, Members: 3}}, Size: book.Size{Shards: 1, Buckets: 1, Slots: 4}, Tries: 2, Ring: 4}
	s := forwarding(t, p)
	b := bytesOf(station+1, station, -1)
	if n := s.Arrive(0, b); n != 0 {
		t.Error(n)
	}
	settle(t, s)
	tagged, _ := frame.Out(b, true, 1)
	out := s.Out()
	if len(out) != 1 || out[0].Mark == 0 || !sameOut(out, []bridge.Out{{Id: 0, From: 0, To: 1, Mark: out[0].Mark, Bytes: tagged}}) {
		t.Errorf("%+v", out)
	}
	quiet(t, p, s)
}

func TestNew(t *testing.T) {
	for _, p := range plans() {
		s := newSwitch(t, p, 1, 1)
		m, _ := model.New(p)
		if s.Tasks() != 2*p.Ports+2 || !s.Quiet() || s.Now() != 0 || !same(s.Shape(), m.Shape()) {
			t.Errorf("of %d ports: %d tasks, %+v", p.Ports, s.Tasks(), s.Shape())
		}
		if len(s.Log()) != 0 || len(s.Arrivals()) != 0 || len(s.Done(0)) != 0 || len(s.Out()) != 0 || s.Counts(0, 1) != (bridge.Counts{}) || !slices.Equal(s.Refused(1), make([]int, api.Reasons)) {
			t.Errorf("of %d ports: something was done", p.Ports)
		}
	}
	for i, c := range []struct {
		change func(p *model.Plan)
		want   api.Errno
	}{
		{func(p *model.Plan) { p.Ports = 1 }, api.ErrPort}, {func(p *model.Plan) { p.Ports = 65 }, api.ErrPort},
		{func(p *model.Plan) { p.Vlans[1].Vid = p.Vlans[0].Vid }, api.ErrVlan},
		{func(p *model.Plan) { p.Rules = p.Rules[1:] }, api.ErrArg}, {func(p *model.Plan) { p.Rules[1].Pvid = 0 }, api.ErrArg},
		{func(p *model.Plan) { p.Size.Shards = 9 }, api.ErrArg}, {func(p *model.Plan) { p.Tries = 0 }, api.ErrArg}, {func(p *model.Plan) { p.Ring = 65 }, api.ErrArg},
	} {
		p := plans()[2]
		c.change(&p)
		if model.Check(p) == api.OK {
			t.Fatal(i, "it may be")
		}
		if s, e := bridge.New(p, 1, 1); s != nil || e != model.Check(p) {
			t.Error(i, s, e)
		}
	}
}

// What comes from outside makes no step, nor does a question; and what was picked behind it isn't done yet.
func TestOutsideMakesNoStep(t *testing.T) {
	p := plans()[2]
	s := newSwitch(t, p, 1, 1)
	time := s.Time()
	s.Arrive(0, bytesOf(broadcast, station, -1))
	s.Tick(5)
	s.Change(true)
	s.Sweep()
	order(t, s, model.Op{Kind: model.SetState, Port: 1, State: port.Forwarding})
	s.Quiet()
	s.Rounds()
	s.Tasks()
	s.Counts(0, 1)
	s.Shape()
	s.Done(0)
	s.Refused(0)
	if s.Time() != time || len(s.Log()) != 0 || len(s.Out()) != 0 || s.Pick(-1) || s.Pick(10) || s.Time() != time {
		t.Error("there was a step")
	}
}

func TestArrive(t *testing.T) {
	p := open(3, 2)
	s := newSwitch(t, p, 1, 1)
	var want []bridge.Arrival
	for i, at := range []int{2, 0, 0, 1, 2, 0} {
		b := bytesOf(station+1, station, i)[:60-i]
		if n := s.Arrive(at, b); n != i {
			t.Errorf("%d, not %d", n, i)
		}
		want = append(want, bridge.Arrival{Port: at, Tick: uint32(7 * i), Bytes: slices.Clone(b)})
		b[3]++
		s.Tick(7)
	}
	for _, at := range []int{-1, 3, 64, math.MaxInt, math.MinInt} {
		if n := s.Arrive(at, want[0].Bytes); n != -1 {
			t.Errorf("at %d: %d", at, n)
		}
	}
	s.Arrive(1, nil)
	want = append(want, bridge.Arrival{Port: 1, Tick: 42})
	if !sameArrivals(s.Arrivals(), want) {
		t.Errorf("%+v", s.Arrivals())
	}
	settle(t, s)
	for at, ids := range [][]int{{1, 2, 5}, {3, 6}, {0, 4}} {
		var got []int
		for _, d := range s.Done(at) {
			got = append(got, d.Id)
		}
		if !slices.Equal(got, ids) {
			t.Errorf("at %d: %v", at, got)
		}
	}
	if !sameArrivals(s.Arrivals(), want) {
		t.Errorf("when all is over: %+v", s.Arrivals())
	}
}

// So many frames may come, and not one more, also when those are over.
func TestAMillionFrames(t *testing.T) {
	s := newSwitch(t, open(2, 1), 1, 1)
	for i := range 1000000 {
		if n := s.Arrive(i%2, nil); n != i {
			t.Fatalf("%d, not %d", n, i)
		}
	}
	if s.Arrive(0, nil) != -1 || s.Arrive(1, bytesOf(station, station, -1)) != -1 {
		t.Error("one more came")
	}
	if n := finish(t, newSwitch(t, open(2, 1), 1, 1), 0); n != 0 {
		t.Error(n)
	}
	for range 10 {
		s.Pick(0)
	}
	if s.Arrive(0, nil) != -1 || len(s.Done(0)) != 10 || s.Rounds() < 999990 {
		t.Error("one more came when some were over")
	}
}

// A frame is begun at the tick at which it came, whenever its Ingress is picked.
func TestTickOfAFrame(t *testing.T) {
	p := open(2, 4)
	s, e := bridge.New(p, 0.5, 1)
	if e != api.OK {
		t.Fatal(e)
	}
	for i := range 2 {
		order(t, s, model.Op{Kind: model.SetState, Port: i, State: port.Forwarding})
	}
	settle(t, s)
	s.Tick(math.MaxUint32 - 1) // 2 ahead of 0
	for i := range 5 {
		s.Arrive(0, bytesOf(broadcast, station, -1))
		if i > 0 {
			s.Tick(1)
		}
	}
	s.Tick(1000)
	if s.Now() != 1002 {
		t.Error(s.Now())
	}
	settle(t, s)
	var stamps []uint32
	for _, h := range s.Log() {
		if h.Op.Kind == model.Learn {
			stamps = append(stamps, h.Op.Now)
		}
	}
	// The gauge has room for one at once, and one more each second tick.
	if !slices.Equal(stamps, []uint32{math.MaxUint32 - 1, 0}) || s.Refused(0)[api.Storm] != 3 || s.Refused(0)[api.Taken] != 2 {
		t.Errorf("%v, %v", stamps, s.Refused(0))
	}
}

// Each port has a gauge of its own, from tick 0 on.
func TestGauges(t *testing.T) {
	for _, c := range []struct {
		level, most float64
		ticks       uint32
		want        int
	}{{0, 2, 9, 2}, {math.Inf(1), 0, 0, 6}, {math.NaN(), math.NaN(), 3, 6}, {1, 3, 0, 3}, {-1, 5, 1, 4}, {1, 0.5, 9, 0}, {-1, math.Inf(1), 9, 6}} {
		s, _ := bridge.New(open(2, 8), c.level, c.most)
		for i := range 2 {
			order(t, s, model.Op{Kind: model.SetState, Port: i, State: port.Forwarding})
		}
		s.Tick(c.ticks)
		for i := range 12 {
			s.Arrive(i%2, bytesOf(broadcast, station, -1))
			s.Arrive(i%2, bytesOf(station+1, station, -1)) // the gauge isn't asked
		}
		finish(t, s, s.Tasks()-1)
		settle(t, s)
		for i := range 2 {
			if n := s.Refused(i); n[api.Taken] != 6+c.want || n[api.Storm] != 6-c.want {
				t.Errorf("%+v: at %d: %v", c, i, n)
			}
		}
	}
}

// A sweep has the tick at which it begins, and a Limit of whether entries are to live shorter then.
func TestSweep(t *testing.T) {
	p := plans()[4]
	for _, c := range []struct {
		normal, short uint32
		changes       []bool
		want          uint32
	}{{30, 5, nil, 30}, {30, 5, []bool{true}, 5}, {5, 30, []bool{true}, 5}, {30, 5, []bool{true, false}, 30}, {math.MaxUint32, 0, []bool{false, true}, 0}} {
		p.Normal, p.Short = c.normal, c.short
		s := newSwitch(t, p, 1, 1)
		for _, on := range c.changes {
			s.Change(on)
		}
		s.Tick(77)
		if s.Pick(2*p.Ports) || !s.Sweep() || s.Sweep() {
			t.Error("Sweep")
		}
		s.Tick(1)
		s.Change(len(c.changes) == 0 || !c.changes[len(c.changes)-1])
		var want []model.Op
		for i := range 4 {
			want = append(want, model.Op{Kind: model.Age, Shard: i / 2, Bucket: i % 2, Now: 77, Limit: c.want})
		}
		for s.Pick(2 * p.Ports) {
			if !s.Quiet() && s.Sweep() {
				t.Fatal("two sweeps at once")
			}
		}
		var got []model.Op
		for _, e := range s.Log() {
			got = append(got, e.Op)
		}
		if !slices.Equal(got, want) {
			t.Errorf("%+v: %+v", c, got)
		}
		if !s.Quiet() || !s.Sweep() {
			t.Error("the sweep isn't over")
		}
	}
}

// ofWho is what somebody did.
func ofWho(s *bridge.Switch, who int) []hist.Entry {
	var l []hist.Entry
	for _, e := range s.Log() {
		if e.Who == who {
			l = append(l, e)
		}
	}
	return l
}

// What each Age swept is told from its first step to its last, also of sweeps that aren't the last one.
func TestAges(t *testing.T) {
	p := open(2, 2)
	s := forwarding(t, p)
	ager, came := 2*p.Ports, 0
	var l []hist.Entry
	for round := range 3 {
		for i := range 2 + round {
			s.Arrive(i%2, bytesOf(broadcast, station+mac.Mac(16*round+i), -1))
			came++
		}
		settle(t, s)
		s.Tick(31)
		s.Sweep()
		for {
			before, had := s.Time(), len(l)
			if !s.Pick(ager) {
				break
			}
			l = ofWho(s, ager)
			last := l[len(l)-1]
			if len(l) > had && (last.Begin != before || len(l) > had+1) || last.Op.Bucket != (len(l)-1)%2 || last.End > 0 && (last.End != s.Time() || last.Mark == 0) || last.End == 0 && last.Answer != 0 {
				t.Fatalf("%d to %d: %+v", before, s.Time(), l)
			}
		}
	}
	gone := 0
	for _, e := range l {
		gone += e.Answer
	}
	if len(l) != 6 || gone != came {
		t.Errorf("%d are gone: %+v", gone, l)
	}
	quiet(t, p, s)
}

// An order is taken just if ctl takes it; they are carried out one behind the other, each from its first step on.
func TestOrders(t *testing.T) {
	p := open(3, 2)
	s := forwarding(t, p)
	right, wrong := key.Key{Vid: 1, Mac: station}, key.Key{Vid: 1, Mac: group}
	for kind := -1; kind < 15; kind++ {
		want := kind == model.Order || kind == model.Drop || kind == model.Flush || kind == model.SetState || kind == model.SetVlan
		o := model.Op{Kind: kind, Port: 2, Vid: 2, State: port.Blocking, Key: right}
		if s.Order(o) != want {
			t.Errorf("%+v", o)
		}
	}
	settle(t, s)
	for _, o := range []model.Op{
		{Kind: model.Order, Port: 3, Key: right}, {Kind: model.Order, Port: -1, Key: right}, {Kind: model.Order, Key: wrong}, {Kind: model.Drop, Key: wrong},
		{Kind: model.SetState, Port: 3}, {Kind: model.SetState, State: 5}, {Kind: model.SetState, State: -1}, {Kind: model.SetVlan, Vid: 3},
	} {
		if s.Order(o) || !s.Quiet() || s.Pick(7) {
			t.Errorf("%+v", o)
		}
	}
	had := len(ofWho(s, 7))
	want := []model.Op{{Kind: model.Order, Key: right, Port: 1, Now: 9, Id: 4}, {Kind: model.SetState, Port: 0, State: port.Learning}, {Kind: model.SetVlan, Vid: 2, Members: 5, Untagged: 1}, {Kind: model.Drop, Key: right}, {Kind: model.Flush, Port: -1, Vid: -1}}
	for _, o := range want {
		order(t, s, o)
	}
	if len(ofWho(s, 7)) != had {
		t.Error("an order is told ahead of its first step")
	}
	s.Arrive(1, bytesOf(broadcast, station, -1))
	finish(t, s, 1) // steps between
	first := s.Time()
	s.Pick(7)
	l := ofWho(s, 7)[had:]
	if len(l) != 1 || l[0].Begin != first || l[0].End != 0 {
		t.Errorf("%+v", l)
	}
	settle(t, s)
	var got []model.Op
	for _, e := range ofWho(s, 7)[had:] {
		if e.Op.Kind != model.Get {
			got = append(got, e.Op)
		}
	}
	if !slices.Equal(got, want) {
		t.Errorf("%+v", got)
	}
	quiet(t, p, s)
}

// Each of the tasks is who its number tells.
func TestWho(t *testing.T) {
	p := open(3, 4)
	s := forwarding(t, p)
	s.Arrive(2, bytesOf(broadcast, station, -1))
	s.Sweep()
	order(t, s, model.Op{Kind: model.Flush})
	for _, k := range []int{0, 1, 3, 4, 5} {
		if s.Pick(k) {
			t.Errorf("task %d had something to do", k)
		}
	}
	for _, c := range []struct {
		task  int
		kinds []int
	}{
		{2, []int{model.GetMembers, model.GetState, model.Learn, model.Put, model.Put}}, {3, []int{model.Get, model.Send}}, {4, []int{model.Get, model.Send}},
		{6, []int{model.Age, model.Age}}, {7, []int{model.SetState, model.SetState, model.SetState, model.Flush}},
	} {
		if finish(t, s, c.task) == 0 {
			t.Errorf("task %d had nothing to do", c.task)
		}
		var got []int
		for _, e := range ofWho(s, c.task) {
			got = append(got, e.Op.Kind)
		}
		if !slices.Equal(got, c.kinds) {
			t.Errorf("task %d: %v", c.task, got)
		}
	}
	for _, k := range []int{-1, 8, 64, math.MaxInt, math.MinInt} {
		if s.Pick(k) {
			t.Errorf("there is a task %d", k)
		}
	}
	quiet(t, p, s)
}

// A frame that needs no step of the memory is over by a Pick all the same; each reason is counted at the port where the frame came.
func TestRefused(t *testing.T) {
	p := open(4, 1)
	p.Rules[1].Accept = vlan.OnlyTagged
	p.Vlans[1].Members = 7
	s := newSwitch(t, p, 0, 1)
	for i := range 3 {
		order(t, s, model.Op{Kind: model.SetState, Port: i, State: port.Forwarding})
	}
	settle(t, s)
	form := bytesOf(station, station+1, -1)
	form[12], form[13] = 5, 0xff
	for _, c := range []struct {
		at    int
		b     []byte
		why   api.Why
		steps int
	}{
		{0, nil, api.Short, 0}, {0, make([]byte, 59), api.Short, 0}, {1, make([]byte, 1515), api.Long, 0}, {2, form, api.Form, 0}, {0, bytesOf(station, group, -1), api.Source, 0},
		{0, bytesOf(reserved, station, -1), api.Reserved, 0}, {1, bytesOf(station, station+1, -1), api.Tag, 0}, {0, bytesOf(station, station+1, 9), api.Vlan, 0},
		{3, bytesOf(station, station+1, 2), api.Member, 1}, {3, bytesOf(station, station+1, 1), api.State, 2}, {0, bytesOf(station, station, 1), api.Taken, 0}, {0, bytesOf(group, station, 1), api.Taken, 0}, {0, bytesOf(group, station, 1), api.Storm, 1},
	} {
		had, shape, time := s.Refused(c.at), s.Shape(), s.Time()
		s.Arrive(c.at, c.b)
		if !slices.Equal(s.Refused(c.at), had) {
			t.Error("it is counted ahead of its end")
		}
		n := finish(t, s, c.at)
		if c.why != api.Taken && (!same(s.Shape(), shape) || s.Time()-time != c.steps || n != max(c.steps, 1)) {
			t.Errorf("%d changes something, or has %d steps in %d Picks", c.why, s.Time()-time, n)
		}
		settle(t, s)
		had[c.why]++
		if is := s.Refused(c.at); !slices.Equal(is, had) {
			t.Errorf("%d: %v, not %v", c.why, is, had)
		}
	}
	quiet(t, p, s)
}

// What goes out has the bytes that came, but for the tag; in the order of Marks, whatever port is picked first.
func TestOut(t *testing.T) {
	p := open(4, 4)
	p.Vlans[0].Untagged, p.Vlans[1].Members, p.Vlans[1].Untagged = 5, 13, 1
	s := forwarding(t, p)
	plain, tagged := bytesOf(broadcast, station, -1), bytesOf(broadcast, station, 2|5<<13)
	s.Arrive(1, plain)
	s.Arrive(3, tagged)
	for _, k := range []int{3, 1, 7, 5, 6, 4} {
		finish(t, s, k)
	}
	var want []bridge.Out
	for _, w := range []struct {
		id, from, to int
		tagged       bool
	}{{0, 1, 3, true}, {0, 1, 2, false}, {1, 3, 2, true}, {0, 1, 0, false}, {1, 3, 0, false}} {
		b, _ := frame.Out([][]byte{plain, tagged}[w.id], w.tagged, 1+w.id)
		want = append(want, bridge.Out{Id: w.id, From: w.from, To: w.to, Bytes: b})
	}
	got, mark := s.Out(), 0
	for i, o := range got {
		if o.Mark <= mark || !slices.ContainsFunc(s.Log(), func(e hist.Entry) bool { return e.Mark == o.Mark && e.Op.Kind == model.Send && e.Op.To == o.To }) {
			t.Errorf("the Mark of %+v", o)
		}
		mark, got[i].Mark = o.Mark, 0
	}
	if !sameOut(got, want) {
		t.Errorf("%+v, not %+v", got, want)
	}
	settle(t, s)
	quiet(t, p, s)
}

// Each field of Counts, by itself.
func TestCounts(t *testing.T) {
	p := open(3, 2)
	s := forwarding(t, p)
	counts := func(from, to int, want bridge.Counts) {
		t.Helper()
		if is := s.Counts(from, to); is != want {
			t.Errorf("from %d to %d: %+v, not %+v", from, to, is, want)
		}
	}
	for range 5 {
		s.Arrive(0, bytesOf(broadcast, station, -1))
	}
	s.Arrive(2, bytesOf(broadcast, station+1, 2))
	finish(t, s, 0)
	finish(t, s, 2)
	counts(0, 1, bridge.Counts{Offered: 5, Full: 3, Waits: 2})
	counts(0, 2, bridge.Counts{Offered: 5, Full: 3, Waits: 2})
	counts(2, 1, bridge.Counts{Offered: 1, Waits: 1})
	for range 6 { // the lock, the Get (4 steps), and the Stand
		s.Pick(4)
	}
	counts(0, 1, bridge.Counts{Offered: 5, Full: 3, Waits: 1})
	finish(t, s, 4)
	counts(0, 1, bridge.Counts{Offered: 5, Full: 3, Sent: 2})
	counts(2, 1, bridge.Counts{Offered: 1, Sent: 1})
	order(t, s, model.Op{Kind: model.SetState, Port: 2, State: port.Learning})
	finish(t, s, 7)
	counts(0, 2, bridge.Counts{Offered: 5, Full: 3, Drained: 2})
	s.Arrive(0, bytesOf(station, station, 1)) // it is found where it came
	s.Arrive(0, bytesOf(broadcast, station, 2))
	finish(t, s, 0)
	counts(0, 2, bridge.Counts{Offered: 6, Full: 3, Drained: 2, Waits: 1})
	finish(t, s, 5)
	counts(0, 2, bridge.Counts{Offered: 6, Full: 3, Late: 1, Drained: 2})
	order(t, s, model.Op{Kind: model.SetVlan, Vid: 2, Members: 5})
	finish(t, s, 7)
	settle(t, s)
	counts(0, 1, bridge.Counts{Offered: 6, Full: 3, Sent: 2, Late: 1})
	for _, pair := range [][2]int{{1, 0}, {1, 2}, {2, 2}, {0, 0}, {-1, 0}, {0, -1}, {3, 0}, {0, 3}, {math.MaxInt, math.MinInt}} {
		counts(pair[0], pair[1], bridge.Counts{})
	}
	quiet(t, p, s)
}

// Where there is no such port there is nothing.
func TestNoSuchPort(t *testing.T) {
	s := forwarding(t, open(2, 2))
	s.Arrive(0, nil)
	settle(t, s)
	for _, at := range []int{-1, 2, 64, math.MaxInt, math.MinInt} {
		if s.Done(at) != nil || s.Refused(at) != nil {
			t.Errorf("at %d there is something", at)
		}
	}
	if len(s.Refused(0)) != 11 || len(s.Refused(1)) != 11 || len(s.Done(0)) != 1 || len(s.Done(1)) != 0 {
		t.Error("at 0, or 1, there isn't")
	}
}

func TestRounds(t *testing.T) {
	p := plans()[4] // of 5 ports, and 4 buckets
	s := newSwitch(t, p, 1, 1)
	f, _ := ctl.Make(p)
	frame, number, order, bucket := ingress.Bound(f), egress.Bound(f), ctl.Bound(p), fdb.Bound(p.Size, p.Tries)
	want := 10*number + 64
	rounds := func(what string) {
		t.Helper()
		if n := s.Rounds(); n != want {
			t.Errorf("%s: %d, not %d", what, n, want)
		}
	}
	rounds("nothing")
	for i := range 5 {
		s.Order(model.Op{Kind: model.SetState, Port: i, State: port.Forwarding})
		want += order
		rounds("an order waits")
	}
	s.Pick(11)
	rounds("an order is under way")
	finish(t, s, 11)
	want -= 5 * order
	rounds("orders are over")
	s.Sweep()
	want += 4 * bucket
	rounds("a sweep")
	s.Pick(10)
	rounds("a sweep is under way")
	finish(t, s, 10)
	want -= 4 * bucket
	rounds("the sweep is over")
	for i := range 3 {
		s.Arrive(i/2, bytesOf(broadcast, station, 1))
		want += frame + 5*number
		rounds("a frame waits")
	}
	s.Pick(0)
	rounds("a frame is under way")
	had := 0
	for s.Pick(0) {
		counts := 0
		for to := range 5 {
			counts += s.Counts(0, to).Waits
		}
		done := len(s.Done(0))
		want += (counts - had) * number
		if n := s.Rounds(); n != want-done*(frame+5*number) {
			t.Errorf("%d are done, %d wait: %d", done, counts, n)
		}
		had = counts
	}
}

// A nil Switch, and one that New didn't make.
func TestNone(t *testing.T) {
	for _, s := range []*bridge.Switch{nil, {}} {
		s.Tick(5)
		s.Change(true)
		if s.Arrive(0, bytesOf(station, station+1, -1)) != -1 || s.Sweep() || s.Order(model.Op{Kind: model.Flush}) || s.Tasks() != 0 || s.Pick(0) || !s.Quiet() || s.Rounds() != 0 {
			t.Error("it does something")
		}
		if s.Now() != 0 || s.Time() != 0 || len(s.Log()) != 0 || !same(s.Shape(), model.Shape{}) || len(s.Arrivals()) != 0 || len(s.Done(0)) != 0 || len(s.Out()) != 0 || s.Counts(0, 0) != (bridge.Counts{}) || len(s.Refused(0)) != 0 {
			t.Error("it tells something")
		}
	}
}

// What is handed in isn't kept or changed, and answers are new memory.
func TestMemory(t *testing.T) {
	p := open(3, 2)
	s := forwarding(t, p)
	p.Rules[0].Pvid, p.Vlans[0].Members = 4000, 0
	p = open(3, 2)
	for i := range 4 {
		room := slices.Grow(bytesOf(broadcast, station+1, -1), 100)
		b := slices.Clone(room[:cap(room)])
		s.Arrive(i%2, room)
		for range i {
			s.Pick(0)
		}
		if !bytes.Equal(room[:cap(room)], b) {
			t.Error("what is handed in is changed")
		}
		clear(room[:cap(room)])
	}
	settle(t, s)
	out, came, done, log, shape, refused := s.Out(), s.Arrivals(), s.Done(0), s.Log(), s.Shape(), s.Refused(0)
	if len(out) == 0 || len(done) == 0 || refused[0] == 0 {
		t.Fatal("nothing was done")
	}
	for _, o := range out {
		clear(o.Bytes[:cap(o.Bytes)])
	}
	for _, a := range came {
		clear(a.Bytes[:cap(a.Bytes)])
	}
	for _, d := range done {
		clear(d.To[:cap(d.To)])
		clear(d.Full[:cap(d.Full)])
	}
	for _, l := range shape.Buckets {
		clear(l)
	}
	clear(shape.Stands)
	clear(shape.Vlans)
	clear(out)
	clear(came)
	clear(done)
	clear(refused)
	clear(log[:cap(log)])
	again, _ := frame.Out(bytesOf(broadcast, station+1, -1), false, 0)
	for _, o := range s.Out() {
		if !bytes.Equal(o.Bytes, again) || o.Mark == 0 {
			t.Errorf("%+v", o)
		}
	}
	for _, a := range s.Arrivals() {
		if !bytes.Equal(a.Bytes, again) {
			t.Errorf("%+v", a)
		}
	}
	for i, d := range s.Done(0) {
		if d.Id != 2*i || !slices.Equal(slices.Concat(d.To, d.Full), []int{1, 2}) {
			t.Errorf("%+v", d)
		}
	}
	if s.Refused(0)[0] != 2 {
		t.Error(s.Refused(0))
	}
	quiet(t, p, s)
}
