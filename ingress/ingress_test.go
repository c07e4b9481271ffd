package ingress_test

import (
	"math"
	"slices"
	"testing"

	"patchbay/api"
	"patchbay/bucket"
	"patchbay/ctl"
	"patchbay/gauge"
	"patchbay/hist"
	"patchbay/ingress"
	"patchbay/mac"
	"patchbay/model"
	"patchbay/port"
	"patchbay/vlan"
)

func TestTickets(t *testing.T) {
	for _, c := range []struct{ id, vid, want int }{
		{0, 0, 0}, {0, 1, 1}, {1, 0, 4096}, {5, 7, 20487}, {3, 4095, 16383}, {1 << 40, 4095, 1<<52 + 4095}, {1<<40 - 1, 4094, 1<<52 - 2},
		{1<<40 + 1, 1, 0}, {-1, 1, 0}, {1, -1, 0}, {1, 4096, 0}, {math.MaxInt, 5, 0}, {math.MinInt, 5, 0}, {5, math.MaxInt, 0}, {5, math.MinInt, 0},
	} {
		n := ingress.Ticket(c.id, c.vid)
		if n != c.want {
			t.Errorf("%+v: %d", c, n)
		}
		if n > 0 && (ingress.Id(n) != c.id || ingress.Vid(n) != c.vid) {
			t.Errorf("%d: %d, %d", n, ingress.Id(n), ingress.Vid(n))
		}
	}
	for _, c := range []struct{ ticket, id, vid int }{
		{0, 0, 0}, {-1, 0, 0}, {-4097, 0, 0}, {math.MinInt, 0, 0}, {4095, 0, 4095}, {4096, 1, 0}, {8191, 1, 4095}, {math.MaxInt, 1<<51 - 1, 4095},
	} {
		if id, vid := ingress.Id(c.ticket), ingress.Vid(c.ticket); id != c.id || vid != c.vid {
			t.Errorf("%d: %d, %d", c.ticket, id, vid)
		}
	}
}

func TestNew(t *testing.T) {
	f, _ := ctl.Make(plans()[2])
	now := f.Mem().Time()
	for _, c := range []struct {
		f      *ctl.Fabric
		p, who int
		e      api.Errno
	}{
		{f, 0, 0, api.OK}, {f, 3, math.MaxInt, api.OK}, {nil, 0, 0, api.ErrArg}, {nil, -1, -1, api.ErrArg}, {f, 0, -1, api.ErrArg}, {f, 9, math.MinInt, api.ErrArg},
		{f, -1, 0, api.ErrPort}, {f, 4, 0, api.ErrPort}, {f, 64, 0, api.ErrPort}, {f, math.MaxInt, 0, api.ErrPort}, {f, math.MinInt, 0, api.ErrPort}, {&ctl.Fabric{}, 0, 0, api.ErrPort},
	} {
		x, e := ingress.New(c.f, c.p, c.who, everything)
		if e != c.e || (x != nil) != (e == api.OK) {
			t.Errorf("%d, %d: %v, %d", c.p, c.who, x != nil, e)
		}
		if x != nil && (!x.Idle() || !x.Step() || len(x.Done()) != 0 || len(x.Log()) != 0) {
			t.Errorf("%d, %d: isn't idle", c.p, c.who)
		}
	}
	if f.Mem().Time() != now {
		t.Error("New made steps")
	}
}

func TestBound(t *testing.T) {
	for i, want := range map[int]int{0: 16 + 2*52 + 16, 2: 16 + 2*(16+2*12+2*28) + 32, 4: 16 + 2*(16+2*36+8*(4+16*72)) + 512} {
		f, _ := ctl.Make(plans()[i])
		if n := ingress.Bound(f); n != want {
			t.Errorf("plan %d: %d, not %d", i, n, want)
		}
	}
	if ingress.Bound(nil) != 0 {
		t.Error(ingress.Bound(nil))
	}
}

func TestNil(t *testing.T) {
	for _, x := range []*ingress.Ingress{nil, {}} {
		if x.Begin(0, bytesOf(broadcast, station, -1), 0) || !x.Step() || !x.Idle() || len(x.Done()) != 0 || len(x.Log()) != 0 {
			t.Error("a nil Ingress")
		}
	}
	ingress.Bound(&ctl.Fabric{})
}

func TestBeginThatCantBe(t *testing.T) {
	w := newWorld(t, plans()[2], everything)
	x := w.doors[0].x
	for _, id := range []int{-1, 1<<40 + 1, math.MaxInt, math.MinInt} {
		if x.Begin(id, bytesOf(broadcast, station, -1), 0) || !x.Idle() || !x.Step() || len(x.Done()) != 0 {
			t.Error(id)
		}
	}
	for _, id := range []int{0, 1 << 40} {
		if d := w.in(0, arrival{id: id, b: bytesOf(broadcast, station+1, 2)}); d.Id != id || d.Why != api.State {
			t.Error(d)
		}
	}
	// while one is being done another one can't, and changes nothing of the first one
	w.begin(0, arrival{id: 7, b: bytesOf(broadcast, station+1, 2)})
	for done := false; !done; done = w.step(0) {
		if x.Begin(8, bytesOf(group, station, 77), 5) || x.Begin(-1, nil, 0) {
			t.Fatal("two at a time")
		}
	}
	w.quiet()
}

// forwarding is a world in which all ports are Forwarding.
func forwarding(t *testing.T, p model.Plan, g gauge.Gauge) *world {
	t.Helper()
	w := newWorld(t, p, g)
	for i := range p.Ports {
		w.order(model.Op{Kind: model.SetState, Port: i, State: port.Forwarding})
	}
	return w
}

// Each reason, where it applies with all that come behind it; nothing is changed.
func TestReasons(t *testing.T) {
	p := planOf(3, 2, plans()[2].Size, 2)
	p.Vlans[0].Members, p.Vlans[0].Untagged = 3, 0
	p.Rules = []vlan.Rule{{Pvid: 1}, {Pvid: 9}, {Pvid: 1, Accept: vlan.OnlyTagged}}
	short, long := bytesOf(broadcast, group, 77)[:59], append(bytesOf(broadcast, group, 77), make([]byte, 1459)...)
	form := bytesOf(broadcast, group, -1)
	form[12], form[13] = 5, 0xde
	for _, c := range []struct {
		name         string
		at           int
		b            []byte
		vid, entries int
		why          api.Why
	}{
		{"nothing", 0, nil, 0, 0, api.Short}, {"short", 0, short, 0, 0, api.Short}, {"long", 0, long, 0, 0, api.Long}, {"form", 0, form, 0, 0, api.Form},
		{"source", 0, bytesOf(reserved, group, 77), 0, 0, api.Source}, {"reserved", 0, bytesOf(reserved, station, 77), 0, 0, api.Reserved},
		{"tag", 2, bytesOf(broadcast, station, -1), 0, 0, api.Tag}, {"4095", 2, bytesOf(broadcast, station, 4095), 0, 0, api.Vlan},
		{"no VLAN", 0, bytesOf(broadcast, station, 77), 77, 0, api.Vlan}, {"no VLAN by Pvid", 1, bytesOf(broadcast, station, -1), 9, 0, api.Vlan},
		{"member", 2, bytesOf(broadcast, station, 1), 1, 1, api.Member}, {"member of 2", 1, bytesOf(broadcast, station, 2), 2, 1, api.Member},
		{"storm", 0, bytesOf(broadcast, station, -1), 1, 1, api.Storm}, {"storm of a group", 0, bytesOf(group, station, 1), 1, 1, api.Storm},
		{"state", 0, bytesOf(station+1, station, -1), 1, 2, api.State}, {"state of 0", 0, bytesOf(0, station, 0xe001), 1, 2, api.State},
	} {
		w := newWorld(t, p, gauge.New(0, 0.5, 0))
		w.order(model.Op{Kind: model.SetState, Port: c.at, State: port.Listening})
		before := w.f.Shape()
		got := w.in(c.at, arrival{id: 5, b: c.b, now: 7})
		want := ingress.Done{Id: 5, Why: c.why, Vid: c.vid, Learned: -1, Found: -2}
		if !sameDone(got, want) || !same(before, w.f.Shape()) {
			t.Errorf("%s: %+v", c.name, got)
		}
		if l := w.doors[c.at].x.Log(); len(l) != c.entries {
			t.Errorf("%s: %+v", c.name, l)
		}
		w.quiet()
	}
}

// What needs no step of the memory is ended by a Step that makes none.
func TestFramesWithoutSteps(t *testing.T) {
	w := newWorld(t, plans()[2], everything)
	for i, b := range [][]byte{nil, bytesOf(broadcast, group, 1), bytesOf(broadcast, station, 3)} {
		now := w.f.Mem().Time()
		w.begin(0, arrival{id: i, b: b})
		if w.doors[0].x.Idle() || len(w.doors[0].x.Done()) != i {
			t.Error(i, "is over ahead of a Step")
		}
		if !w.step(0) || w.f.Mem().Time() != now || len(w.doors[0].x.Done()) != i+1 {
			t.Error(i, "isn't over by a Step")
		}
	}
	w.quiet()
}

// The chapter's example, and the other states.
func TestStates(t *testing.T) {
	for state := range 5 {
		w := forwarding(t, plans()[3], everything)
		w.order(model.Op{Kind: model.SetState, Port: 1, State: state})
		d := w.inNext(1, station+2, station+1, 1)
		var kinds []int
		for _, e := range w.doors[1].x.Log() {
			kinds = append(kinds, e.Op.Kind)
		}
		want := []int{model.GetMembers, model.GetState}
		learned, found, why := -1, -2, api.State
		var to []int
		if state >= port.Learning {
			want = append(want, model.Learn)
			learned, why = bucket.New, api.Taken
		}
		if state == port.Forwarding {
			want = append(want, model.Lookup, model.Put, model.Put, model.Put)
			found, to = -1, []int{2, 3, 4}
		}
		if !slices.Equal(kinds, want) || !sameDone(d, ingress.Done{Id: 1, Why: why, Vid: 1, Learned: learned, Found: found, To: to}) {
			t.Errorf("%d: %v: %+v", state, kinds, d)
		}
		waits := 0
		for _, q := range w.f.Shape().Queues[1] {
			waits += len(q)
		}
		if waits != len(to) {
			t.Errorf("%d: %d wait", state, waits)
		}
		w.quiet()
	}
}

// Where a frame goes, by what is known.
func TestWhereItGoes(t *testing.T) {
	p := plans()[3]
	p.Rules[4].Accept = vlan.Any
	w := forwarding(t, p, everything)
	is := func(d ingress.Done, learned, found int, to, full []int) {
		t.Helper()
		if !sameDone(d, ingress.Done{Id: w.next, Vid: 2, Learned: learned, Found: found, To: to, Full: full}) {
			t.Errorf("%+v", d)
		}
		w.quiet()
	}
	// VLAN 2 has all ports but 1
	is(w.inNext(0, station+2, station+1, 2), bucket.New, -1, []int{2, 3, 4}, nil)
	is(w.inNext(3, station+1, station+2, 2), bucket.New, 0, []int{0}, nil)
	is(w.inNext(0, station+2, station+1, 2), bucket.Fresh, 3, []int{3}, nil)
	is(w.inNext(2, station+2, station+1, 2), bucket.Moved, 3, []int{3}, nil)
	is(w.inNext(2, station+1, station+1, 2), bucket.Fresh, 2, nil, nil)
	is(w.inNext(3, broadcast, station+2, 2), bucket.Fresh, -2, []int{0, 2, 4}, nil)
	is(w.inNext(3, group, 0, 2), -1, -2, []int{0, 2, 4}, nil)
	is(w.inNext(3, 0, 0, 2), -1, -2, []int{0, 2, 4}, nil)
	is(w.inNext(3, station+1, 0, 2), -1, 2, []int{2}, nil)
	// another VLAN's stations are others
	if d := w.inNext(3, station+1, station+2, 3); d.Found != -1 || !slices.Equal(d.To, []int{0, 1, 4}) {
		t.Errorf("%+v", d)
	}
	// an ordered one goes there, also where that port isn't in the VLAN
	w.order(model.Op{Kind: model.Order, Key: w.keyOf(2, 7), Port: 1})
	is(w.inNext(4, station+7, station+3, 2), bucket.New, 1, []int{1}, nil)
	// one that was ordered elsewhere isn't learned
	is(w.inNext(4, station+7, station+7, 2), bucket.Kept, 1, []int{1}, nil)
	for range 6 {
		w.inNext(4, station+7, station+3, 2)
	}
	is(w.inNext(4, station+7, station+3, 2), bucket.Fresh, 1, nil, []int{1})
	w.order(model.Op{Kind: model.SetVlan, Vid: 2, Members: 1<<4 | 1<<1 | 1})
	w.take(4, 1)
	is(w.inNext(4, broadcast, station+3, 2), bucket.Fresh, -2, []int{0, 1}, nil)
	is(w.inNext(4, broadcast, station+3, 2), bucket.Fresh, -2, []int{0}, []int{1})
	// alone in its VLAN
	w.order(model.Op{Kind: model.SetVlan, Vid: 2, Members: 1 << 4})
	is(w.inNext(4, broadcast, station+3, 2), bucket.Fresh, -2, nil, nil)
	is(w.inNext(4, station+77, station+3, 2), bucket.Fresh, -1, nil, nil)
}

// All ports may be in a VLAN; the last one's number is 63.
func TestTheGreatest(t *testing.T) {
	w := forwarding(t, plans()[4], everything)
	w.order(model.Op{Kind: model.SetVlan, Vid: 2, Members: math.MaxUint64})
	if d := w.inNext(0, station+2, station+1, 2); len(d.To) != 63 || d.To[0] != 1 || d.To[62] != 63 {
		t.Errorf("%+v", d)
	}
	if d := w.inNext(63, broadcast, station+2, 2); len(d.To) != 63 || d.To[0] != 0 || d.To[62] != 62 {
		t.Errorf("%+v", d)
	}
	if l := w.doors[63].x.Log(); l[0].Answer != -1 {
		t.Errorf("%+v", l[0])
	}
	w.quiet()
}

// A gauge is asked of what isn't for a single station, where that got so far; of nothing else.
func TestGauges(t *testing.T) {
	w := forwarding(t, plans()[3], gauge.New(0.5, 2, 3))
	at := func(now uint32, dst mac.Mac, why api.Why) {
		t.Helper()
		w.next++
		if d := w.in(1, arrival{id: w.next, b: bytesOf(dst, station+1, 1), now: now}); d.Why != why {
			t.Errorf("at %d: %+v", now, d)
		}
		w.quiet()
	}
	for range 3 {
		at(3, station+9, api.Taken)
		at(3, 0, api.Taken)
	}
	at(3, broadcast, api.Taken)
	w.order(model.Op{Kind: model.SetVlan, Vid: 1, Members: 1})
	at(3, group, api.Member)
	w.order(model.Op{Kind: model.SetVlan, Vid: 1, Members: 3})
	at(3, group, api.Taken)
	at(3, group, api.Storm)
	at(3, station+9, api.Taken)
	at(4, broadcast, api.Storm)
	at(5, broadcast, api.Taken)
	at(5, broadcast, api.Storm)
	at(4, broadcast, api.Storm)
	at(1<<31, broadcast, api.Taken)
	at(1<<31, broadcast, api.Taken)
	at(1<<31, broadcast, api.Storm)
	// one that may come, and then isn't taken, came
	w.order(model.Op{Kind: model.SetState, Port: 1, State: port.Blocking})
	at(1<<31+2, broadcast, api.State)
	at(1<<31+2, broadcast, api.Storm)
	// another port has its own
	if d := w.inNext(2, broadcast, station+2, 2); d.Why != api.Taken {
		t.Errorf("%+v", d)
	}
	for _, level := range []float64{math.Inf(1), math.NaN()} {
		v := forwarding(t, plans()[3], gauge.New(level, 0, 0))
		for range 5 {
			if d := v.inNext(1, broadcast, station+1, 1); d.Why != api.Taken {
				t.Errorf("%v: %+v", level, d)
			}
		}
	}
}

// What is handed in isn't kept or changed; answers are new memory.
func TestSharesNothing(t *testing.T) {
	w := forwarding(t, plans()[3], everything)
	b := bytesOf(broadcast, station+1, 1)
	room := append(slices.Clone(b), 1, 2, 3)
	was := slices.Clone(room)
	w.begin(1, arrival{id: 9, b: bytesOf(broadcast, station+1, 1)}) // what is told of it is held against this one
	x, _ := ingress.New(w.f, 2, 50, everything)
	x.Begin(9, room[:len(b)], 4)
	if !slices.Equal(room, was) {
		t.Error("the bytes were changed")
	}
	copy(room, bytesOf(station+4, station+3, 3))
	for !x.Step() {
	}
	for !w.step(1) {
	}
	d := x.Done()[0]
	if d.Vid != 1 || !slices.Equal(d.To, []int{1, 3, 4}) || d.Found != -2 {
		t.Fatalf("%+v", d)
	}
	d.To[0] = 77
	l := x.Log()
	l[0].Answer = 99
	if x.Done()[0].To[0] != 1 || x.Log()[0].Answer == 99 {
		t.Error("an answer is shared")
	}
	for range 10 {
		w.inNext(1, broadcast, station+1, 1)
	}
	d = w.inNext(1, broadcast, station+1, 1)
	d.Full[0] = 77
	if all := w.doors[1].x.Done(); all[len(all)-1].Full[0] == 77 {
		t.Error("Full is shared")
	}
}

// Somebody's entry at a port that the plan hasn't leads nowhere.
func TestFoundAtNoPort(t *testing.T) {
	w := forwarding(t, plans()[2], everything)
	for _, p := range []int{4, 63} {
		for a := w.f.Fdb().Learn(3, w.keyOf(2, 9), p, 5); !a.Step(); {
		}
		if d := w.inNext(0, station+9, station+1, 2); d.Found != p || len(d.To)+len(d.Full) != 0 || d.Why != api.Taken {
			t.Errorf("%+v", d)
		}
	}
}

// Somebody puts into the ring against the rule: the frame waits till that is over.
func TestSomebodyElsesPush(t *testing.T) {
	w := forwarding(t, plans()[3], everything)
	push := w.f.Ring(0, 2).Push(5)
	w.begin(0, arrival{id: 3, b: bytesOf(broadcast, station+1, 2)})
	for range 500 {
		if w.step(0) {
			t.Fatal("it was put")
		}
	}
	for !push.Step() {
	}
	for !w.step(0) {
	}
	if d := w.doors[0].x.Done(); !slices.Equal(d[0].To, []int{2, 3, 4}) || !slices.Equal(w.f.Shape().Queues[0][2], []int{5, ingress.Ticket(3, 2)}) {
		t.Errorf("%+v", d)
	}
}

// What is in the midst of being done is told of without an end.
func TestLogOnTheWay(t *testing.T) {
	w := forwarding(t, plans()[3], everything)
	w.begin(0, arrival{id: 3, b: bytesOf(station+2, station+1, 2)})
	seen := map[int]bool{}
	for !w.step(0) {
		l := w.doors[0].x.Log()
		for i, e := range l {
			if e.End == 0 {
				seen[e.Op.Kind] = true
				if i != len(l)-1 || e.Answer != 0 {
					t.Fatalf("%+v", l)
				}
			}
			if i > 0 && e.Begin < l[i-1].End {
				t.Fatalf("%+v", l)
			}
		}
		w.right()
	}
	if !seen[model.Learn] || !seen[model.Lookup] || !seen[model.Put] {
		t.Error(seen)
	}
	if slices.ContainsFunc(w.doors[0].x.Log(), func(e hist.Entry) bool { return e.End == 0 }) {
		t.Error("it is over, and something in it isn't")
	}
}

// Locks are taken by its who.
func TestWhoTakesLocks(t *testing.T) {
	w := forwarding(t, plans()[3], everything)
	w.begin(2, arrival{id: 3, b: bytesOf(station+2, station+1, 1)})
	had := false
	for !w.step(2) {
		for l := range w.f.Mem().Locks() {
			who := w.f.Mem().Holder(l)
			had = had || who == 102
			if who != 102 && who != -1 {
				t.Fatalf("a lock is %d's", who)
			}
		}
	}
	if !had {
		t.Error("it learned without a lock")
	}
}

// A Lookup of a bucket that is being changed waits for its lock, and takes it by the Ingress's who.
func TestLookupThatWaits(t *testing.T) {
	w := forwarding(t, plans()[1], everything)
	w.inNext(0, broadcast, station+1, 2)
	change := w.f.Fdb().Order(3, w.keyOf(2, 1), 1, 0)
	for change.Mark() == 0 {
		change.Step()
	}
	w.begin(0, arrival{id: 7, b: bytesOf(station+1, 0, 2)})
	for range 500 {
		if w.step(0) {
			t.Fatal("it found what is being changed")
		}
	}
	for !change.Step() {
	}
	had := false
	for !w.step(0) {
		for l := range w.f.Mem().Locks() {
			had = had || w.f.Mem().Holder(l) == 100
		}
	}
	l := w.doors[0].x.Done()
	if d := l[len(l)-1]; !had || d.Found != 1 {
		t.Errorf("%v: %+v", had, d)
	}
}
