package bridge_test

import (
	"slices"
	"testing"

	"patchbay/api"
	"patchbay/book"
	"patchbay/bridge"
	"patchbay/hist"
	"patchbay/key"
	"patchbay/mac"
	"patchbay/model"
	"patchbay/port"
	"patchbay/vlan"
)

// These hold against the promises of the whole.

// What goes out does so while the model has the port Forwarding, and a member; once a port was set to another state, and that is over, nothing goes out till it is set again.
func TestWhereItGoesOut(t *testing.T) {
	went, shut := 0, 0
	for seed := range uint64(40) {
		x := &numbers{3000 + seed}
		p := small()[1+seed%4]
		s := newSwitch(t, p, 9, 9)
		opened(s, x, p)
		for _, k := range picks(x, s.Tasks(), 2500) {
			something(s, x, p)
			s.Pick(k)
		}
		outs := map[int]bridge.Out{}
		for _, o := range s.Out() {
			outs[o.Mark] = o
		}
		m, _ := model.New(p)
		l := s.Log()
		for _, i := range hist.Order(l) {
			e := l[i]
			if o, was := outs[e.Mark]; was {
				went++
				v := vlan.Find(m.Vlans(), e.Op.Vid)
				if o.To != e.Op.To || m.Stand(o.To).State != port.Forwarding || v < 0 || !vlan.Has(m.Vlans()[v].Members, o.To) {
					t.Fatalf("%+v goes out at %+v", o, m.Stand(o.To))
				}
				delete(outs, e.Mark)
			} else if e.Op.Kind == model.Send && e.Answer == model.Shut {
				shut++
			}
			m.Do(e.Op)
		}
		if len(outs) > 0 {
			t.Fatalf("%+v go out by no Send", outs)
		}
	}
	if went == 0 || shut == 0 {
		t.Error(went, shut)
	}
}

// settled: an order is carried out while all others go on.
func settled(t *testing.T, s *bridge.Switch, x *numbers, o model.Op) {
	t.Helper()
	order(t, s, o)
	for n, had := 0, s.Rounds(); ; n++ {
		if n > had*s.Tasks() {
			t.Fatal("it has no end")
		}
		if !s.Pick(s.Tasks() - 1) {
			return
		}
		s.Pick(x.below(s.Tasks() - 1))
	}
}

// From a port that was shut nothing goes out, whatever is picked, and nothing that waited for it waits.
func TestShut(t *testing.T) {
	for seed := range uint64(40) {
		x := &numbers{4000 + seed}
		p := open(3, 2)
		s := forwarding(t, p)
		for range 6 {
			s.Arrive(0, bytesOf(broadcast, station, -1))
			s.Arrive(1, bytesOf(broadcast, station+1, -1))
		}
		for range x.below(150) {
			s.Pick(x.below(s.Tasks()))
		}
		settled(t, s, x, model.Op{Kind: model.SetState, Port: 2, State: x.below(4)})
		out := len(outAt(s, 2))
		for range 200 {
			s.Pick(x.below(s.Tasks()))
		}
		settle(t, s)
		if l := outAt(s, 2); len(l) != out {
			t.Fatalf("it goes out where it is shut: %+v", l[out:])
		}
		settled(t, s, x, model.Op{Kind: model.SetState, Port: 2, State: port.Forwarding})
		s.Arrive(0, bytesOf(broadcast, station, -1))
		settle(t, s)
		if l := outAt(s, 2); len(l) != out+1 {
			t.Fatalf("it is open, and %+v goes out", l[out:])
		}
		quiet(t, p, s)
	}
}

func outAt(s *bridge.Switch, to int) []bridge.Out {
	return slices.DeleteFunc(s.Out(), func(o bridge.Out) bool { return o.To != to })
}

// Of frames that come in: learned from, and sent, as the state says.
func TestStates(t *testing.T) {
	for state, want := range []struct {
		why           api.Why
		learned, sent bool
	}{{api.State, false, false}, {api.State, false, false}, {api.State, false, false}, {api.Taken, true, false}, {api.Taken, true, true}} {
		p := open(3, 4)
		s := forwarding(t, p)
		order(t, s, model.Op{Kind: model.SetState, Port: 0, State: state})
		settle(t, s)
		s.Arrive(0, bytesOf(broadcast, station, -1))
		s.Arrive(0, bytesOf(station+1, station, -1))
		settle(t, s)
		if n := s.Refused(0); n[want.why] != 2 {
			t.Errorf("%s: %v", port.Name(state), n)
		}
		m, _ := hist.Replay(p, s.Log())
		if (len(m.List()) == 1) != want.learned || len(m.List()) > 1 || (len(s.Out()) == 4) != want.sent || !want.sent && len(s.Out()) > 0 {
			t.Errorf("%s: %+v, %+v", port.Name(state), m.List(), s.Out())
		}
	}
}

// towards tells where a frame for a station goes out that comes in at a port.
func towards(t *testing.T, s *bridge.Switch, at int, dst mac.Mac) []int {
	t.Helper()
	had := len(s.Out())
	s.Arrive(at, bytesOf(dst, station+256, -1)) // from one that isn't asked for
	settle(t, s)
	var to []int
	for _, o := range s.Out()[had:] {
		to = append(to, o.To)
	}
	slices.Sort(to)
	return to
}

// A station is sent to where it was seen last, or is ordered to be, alone, as long as that is known.
func TestWhereStationsAre(t *testing.T) {
	p := open(4, 4)
	p.Size = book.Size{Shards: 2, Buckets: 2, Slots: 8}
	s := forwarding(t, p)
	is := func(what string, want ...int) {
		t.Helper()
		if to := towards(t, s, 0, station+1); !slices.Equal(to, want) {
			t.Errorf("%s: %v, not %v", what, to, want)
		}
	}
	seen := func(at int) {
		s.Arrive(at, bytesOf(broadcast, station+1, -1))
		settle(t, s)
	}
	ordered := func(o model.Op) {
		order(t, s, o)
		settle(t, s)
	}
	swept := func(by uint32) {
		s.Tick(by)
		s.Sweep()
		settle(t, s)
	}
	k := key.Key{Vid: 1, Mac: station + 1}
	is("it isn't known", 1, 2, 3)
	seen(1)
	is("seen at 1", 1)
	seen(3)
	is("seen at 3", 3)
	seen(0)
	is("seen where the frame comes")
	seen(2)
	swept(30)
	is("it is as old as may be", 2)
	swept(1)
	is("it is old", 1, 2, 3)
	seen(2)
	s.Change(true)
	swept(5)
	is("it is as old as may be for a while", 2)
	swept(1)
	is("it is old for a while", 1, 2, 3)
	seen(3)
	ordered(model.Op{Kind: model.Flush, Port: 1, Vid: -1})
	is("another port is flushed", 3)
	ordered(model.Op{Kind: model.Flush, Port: 3, Vid: -1})
	is("its port is flushed", 1, 2, 3)
	ordered(model.Op{Kind: model.Order, Key: k, Port: 2})
	seen(1)
	swept(1000)
	ordered(model.Op{Kind: model.Flush, Port: -1, Vid: -1})
	is("it is ordered to be at 2", 2)
	ordered(model.Op{Kind: model.Drop, Key: k})
	is("that is dropped", 1, 2, 3)
	quiet(t, p, s)
}

// Of want of room the one that wasn't seen for the longest time goes.
func TestWantOfRoom(t *testing.T) {
	p := open(3, 4)
	p.Size = book.Size{Shards: 1, Buckets: 1, Slots: 2}
	s := forwarding(t, p)
	for i := range 3 {
		s.Tick(1)
		s.Arrive(1, bytesOf(broadcast, station+mac.Mac(i), -1))
		settle(t, s)
	}
	order(t, s, model.Op{Kind: model.SetState, Port: 0, State: port.Forwarding})
	m, _ := hist.Replay(p, s.Log())
	if l := m.List(); len(l) != 2 || m.Do(model.Op{Kind: model.Lookup, Key: key.Key{Vid: 1, Mac: station}}) != -1 {
		t.Errorf("%+v", l)
	}
	if to := towards(t, s, 0, station); !slices.Equal(to, []int{1, 2}) {
		t.Error(to)
	}
}
