package ctl_test

import (
	"math"
	"slices"
	"testing"

	"patchbay/api"
	"patchbay/book"
	"patchbay/ctl"
	"patchbay/mem"
	"patchbay/model"
	"patchbay/port"
	"patchbay/vlan"
)

// noPorts are ports that no plan of plans()[:3] has.
var noPorts = []int{-1, 5, 63, 64, math.MaxInt, math.MinInt}

func TestMakeErrors(t *testing.T) {
	change := func(how func(p *model.Plan)) model.Plan {
		p := plans()[1]
		how(&p)
		return p
	}
	for i, c := range []struct {
		p model.Plan
		e api.Errno
	}{
		{model.Plan{}, api.ErrPort},
		{change(func(p *model.Plan) { p.Ports = 65; p.Vlans = slices.Repeat(p.Vlans, 9) }), api.ErrPort},
		{change(func(p *model.Plan) { p.Vlans = slices.Repeat(p.Vlans, 9); p.Ring = 0 }), api.ErrFull},
		{change(func(p *model.Plan) { p.Vlans[1].Vid = 1; p.Rules = nil }), api.ErrVlan},
		{change(func(p *model.Plan) { p.Vlans[1].Members = 8; p.Tries = 0 }), api.ErrPort},
		{change(func(p *model.Plan) { p.Vlans[0].Members = 0; p.Vlans[0].Untagged = 1 }), api.ErrArg},
		{change(func(p *model.Plan) { p.Rules = p.Rules[:2] }), api.ErrArg},
		{change(func(p *model.Plan) { p.Rules[2].Accept = 3 }), api.ErrArg},
		{change(func(p *model.Plan) { p.Size.Shards = 9 }), api.ErrArg},
		{change(func(p *model.Plan) { p.Tries = 9 }), api.ErrArg},
		{change(func(p *model.Plan) { p.Ring = 0 }), api.ErrArg},
		{change(func(p *model.Plan) { p.Ring = 65 }), api.ErrArg},
	} {
		if f, e := ctl.Make(c.p); f != nil || e != c.e {
			t.Errorf("plan %d: %v, %d, not %d", i, f != nil, e, c.e)
		}
		if n := ctl.Bound(c.p); n != 0 {
			t.Errorf("plan %d: Bound %d", i, n)
		}
	}
}

func TestBound(t *testing.T) {
	for i, c := range []struct {
		p    model.Plan
		want int
	}{
		{plans()[0], 52 + 64 + 2*24},
		{plans()[1], 16 + 2*12 + 2*(4+24) + 64 + 3*32},
		{plans()[3], 16 + 2*36 + 8*(4+16*72) + 64 + 64*(16+512)},
	} {
		if n := ctl.Bound(c.p); n != c.want {
			t.Errorf("plan %d: %d, not %d", i, n, c.want)
		}
	}
}

// All stands as of a new model; the parts are as the plan says.
func TestMake(t *testing.T) {
	for i, p := range plans() {
		f := fabric(t, p)
		m, _ := model.New(p)
		before := f.Mem().Time()
		if !same(f.Shape(), m.Shape()) {
			t.Errorf("plan %d: %+v", i, f.Shape())
		}
		got := f.Plan()
		if got.Ports != p.Ports || got.Size != p.Size || got.Tries != p.Tries || got.Ring != p.Ring || got.Normal != 300 || got.Short != 15 || !slices.Equal(got.Rules, p.Rules) || !slices.Equal(got.Vlans, p.Vlans) {
			t.Errorf("plan %d: %+v", i, got)
		}
		if f.Fdb() == nil || f.Fdb() != f.Fdb() || f.Mem() != f.Mem() || len(f.Fdb().Bucket(p.Size.Shards-1, p.Size.Buckets-1)) != p.Size.Slots || f.Fdb().Bucket(p.Size.Shards, 0) != nil || f.Fdb().Bucket(0, p.Size.Buckets) != nil {
			t.Errorf("plan %d: not its Fdb", i)
		}
		for from := -1; from <= p.Ports; from++ {
			for to := -1; to <= p.Ports; to++ {
				is := min(from, to) >= 0 && max(from, to) < p.Ports
				if r := f.Ring(from, to); (r != nil) != is || is && (r.Size() != p.Ring || r.Len() != 0) {
					t.Errorf("plan %d: ring %d, %d", i, from, to)
				}
			}
		}
		if f.Mem().Time() != before {
			t.Errorf("plan %d: a look made steps", i)
		}
	}
}

// The parts' cells and locks are nobody else's: each ring has its own numbers, and nothing else changes by them.
func TestPartsAreApart(t *testing.T) {
	for i, p := range plans() {
		w := newWorld(t, p)
		for from := range p.Ports {
			for to := range p.Ports {
				// In the greatest plan not all are filled, or it takes long.
				for n := range min(p.Ring, 1+100/p.Ports) {
					a := w.f.Ring(from, to).Push(uint64(10000*from + 100*to + n))
					for !a.Step() {
					}
				}
			}
		}
		s, m := w.f.Shape(), modelOf(t, p).Shape()
		if !slices.Equal(s.Stands, m.Stands) || !slices.Equal(s.Vlans, m.Vlans) || !sameLists(s.Buckets, m.Buckets) {
			t.Fatalf("plan %d: numbers that wait changed something else", i)
		}
		for from := range p.Ports {
			for to := range p.Ports {
				if q := s.Queues[from][to]; len(q) == 0 || q[0] != 10000*from+100*to || q[len(q)-1] != 10000*from+100*to+len(q)-1 {
					t.Fatalf("plan %d: at %d for %d wait %v", i, from, to, q)
				}
			}
		}
	}
}

func modelOf(t *testing.T, p model.Plan) *model.Model {
	t.Helper()
	m, e := model.New(p)
	if e != api.OK {
		t.Fatal(e)
	}
	return m
}

// Whoever has all ports' locks keeps no entry from being changed.
func TestPortsLocksAreApart(t *testing.T) {
	for _, p := range plans() {
		w := newWorld(t, p)
		for i := range p.Ports {
			if !w.f.Take(i, 100+i) || w.f.Take(i, 100+i) || w.f.Take(i, 7) {
				t.Fatalf("port %d's lock", i)
			}
		}
		for _, o := range []model.Op{{Kind: model.Order, Key: (&numbers{1}).station()}, {Kind: model.Flush, Port: -1, Vid: -1}} {
			a := w.command(0, o)
			for range ctl.Bound(p) {
				a.Step()
			}
			if !a.Over() {
				t.Fatalf("of %d ports: %+v waits for a port's lock", p.Ports, o)
			}
		}
		for i := range p.Ports {
			if w.f.Free(i, 7) || !w.f.Free(i, 100+i) || w.f.Free(i, 100+i) {
				t.Fatalf("port %d's lock isn't free", i)
			}
		}
	}
}

// What is handed in isn't kept, what is answered is new memory.
func TestMakeSharesNothing(t *testing.T) {
	p := plans()[2]
	f := fabric(t, p)
	p.Rules[0].Pvid, p.Vlans[0].Vid = 77, 78
	got := f.Plan()
	if got.Rules[0].Pvid != 1 || got.Vlans[0].Vid != 1 {
		t.Fatal("Make keeps a plan's lists")
	}
	got.Rules[0].Pvid, got.Vlans[0].Vid, got.Vlans[1].Members = 77, 78, 0
	if again := f.Plan(); again.Rules[0].Pvid != 1 || again.Vlans[0].Vid != 1 || f.Members(2) != 29 {
		t.Error("Plan hands out its lists")
	}
	s := f.Shape()
	s.Stands[0].State, s.Vlans[0].Vid, s.Buckets[0][0].Used = 4, 79, true
	s.Queues[0][0] = append(s.Queues[0][0], 5)
	if again := f.Shape(); again.Stands[0].State != 0 || again.Vlans[0].Vid != 1 || again.Buckets[0][0].Used || len(again.Queues[0][0]) != 0 {
		t.Error("Shape hands out what stands")
	}
	a := f.Command(3, model.Op{Kind: model.Flush})
	a.Log()[0].Who = 9
	if a.Log()[0].Who != 3 {
		t.Error("Log hands out its list")
	}
}

// Each reading is a step; of what there isn't it is none.
func TestReadings(t *testing.T) {
	for _, p := range plans() {
		w := newWorld(t, p)
		steps := func(want int, what string) {
			t.Helper()
			if w.f.Mem().Time() != want {
				t.Fatalf("of %d ports: %s: %d steps too many", p.Ports, what, w.f.Mem().Time()-want)
			}
		}
		for i := range p.Ports {
			w.do(0, w.command(0, model.Op{Kind: model.SetState, Port: i, State: i % 5}))
			w.do(0, w.command(0, model.Op{Kind: model.SetState, Port: i, State: (i + 1) % 5}))
			now := w.f.Mem().Time()
			if s := w.f.Stand(i); s != (port.Stand{State: (i + 1) % 5, Epoch: 2}) {
				t.Errorf("port %d stands %+v", i, s)
			}
			steps(now+1, "Stand")
		}
		now := w.f.Mem().Time()
		for i, v := range p.Vlans {
			if w.f.Members(v.Vid) != v.Members || w.f.Untagged(v.Vid) != v.Untagged {
				t.Errorf("VLAN %d: %x, %x", v.Vid, w.f.Members(v.Vid), w.f.Untagged(v.Vid))
			}
			steps(now+2*i+2, "Members, Untagged")
		}
		now = w.f.Mem().Time()
		for _, vid := range []int{0, -1, 17, 4095, math.MaxInt, math.MinInt} {
			if w.f.Members(vid) != 0 || w.f.Untagged(vid) != 0 {
				t.Errorf("VLAN %d", vid)
			}
		}
		for _, i := range []int{-1, p.Ports, p.Ports + 1, 64, math.MaxInt, math.MinInt} {
			if w.f.Stand(i) != (port.Stand{}) || w.f.Take(i, 1) || w.f.Free(i, 1) {
				t.Errorf("port %d", i)
			}
		}
		if w.f.Take(0, -1) || w.f.Free(0, -1) || w.f.Take(0, math.MinInt) {
			t.Error("a who below 0")
		}
		steps(now, "what there isn't")
	}
}

func TestLocks(t *testing.T) {
	f := fabric(t, plans()[1])
	now := f.Mem().Time()
	for i, is := range []bool{f.Take(1, 5), f.Take(2, 5), !f.Take(1, 6), !f.Free(1, 6), !f.Take(1, 5), f.Free(1, 5), !f.Free(1, 5), f.Take(1, 0), f.Free(1, 0), f.Free(2, 5)} {
		if !is {
			t.Error(i)
		}
	}
	if f.Mem().Time() != now+10 {
		t.Error(f.Mem().Time() - now)
	}
}

func TestNil(t *testing.T) {
	for _, f := range []*ctl.Fabric{nil, {}} {
		var none *mem.Mem
		if p := f.Plan(); p.Ports != 0 || p.Rules != nil || p.Vlans != nil || p.Size != (book.Size{}) {
			t.Error(p)
		}
		if f.Mem() != none || f.Fdb() != nil || f.Ring(0, 0) != nil || f.Stand(0) != (port.Stand{}) || f.Members(1) != 0 || f.Untagged(1) != 0 || f.Take(0, 0) || f.Free(0, 0) {
			t.Error("a nil Fabric")
		}
		if s := f.Shape(); len(s.Stands)+len(s.Vlans)+len(s.Buckets)+len(s.Queues) != 0 {
			t.Error(s)
		}
		for kind := range 14 {
			if f.Command(0, model.Op{Kind: kind, Vid: 1, Key: (&numbers{1}).station()}) != nil {
				t.Error("a nil Fabric's Command of Kind", kind)
			}
		}
	}
	for _, a := range []*ctl.Act{nil, {}} {
		if !a.Step() || !a.Over() || a.Answer() != 0 || len(a.Log()) != 0 {
			t.Error("a nil Act")
		}
	}
}

// A VLAN's sets may have port 63.
func TestPort63(t *testing.T) {
	p := plans()[3]
	w := newWorld(t, p)
	w.do(0, w.command(0, model.Op{Kind: model.SetVlan, Vid: 16, Members: 1 << 63, Untagged: ^vlan.Set(0)}))
	if w.f.Members(16) != 1<<63 || w.f.Untagged(16) != 1<<63 || w.f.Members(15) != p.Vlans[14].Members {
		t.Error(w.f.Members(16), w.f.Untagged(16))
	}
	w.do(0, members(w.f, 0, 16))
	if l := w.log(); l[1].Answer != math.MinInt {
		t.Error(l)
	}
	w.quiet()
}
