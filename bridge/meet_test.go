package bridge_test

import (
	"testing"

	"patchbay/api"
	"patchbay/book"
	"patchbay/bridge"
	"patchbay/frame"
	"patchbay/hist"
	"patchbay/ingress"
	"patchbay/model"
	"patchbay/port"
	"patchbay/turn"
	"patchbay/vlan"
)

// framesRight: each frame that went out is one that came, and was Taken; once at a port, not where it came, alone where it was found, with the bytes that came but for the tag, and in order.
func framesRight(t *testing.T, p model.Plan, s *bridge.Switch) {
	t.Helper()
	came, done := s.Arrivals(), map[int]ingress.Done{}
	for at := range p.Ports {
		for _, d := range s.Done(at) {
			if _, had := done[d.Id]; had || came[d.Id].Port != at {
				t.Fatalf("at %d: %+v", at, d)
			}
			done[d.Id] = d
		}
	}
	sends := map[int]hist.Entry{}
	for _, e := range s.Log() {
		if e.Op.Kind == model.Send {
			sends[e.Mark] = e
		}
	}
	had, last, mark := map[[2]int]bool{}, map[[2]int]int{}, 0
	for _, o := range s.Out() {
		a, send := came[o.Id], sends[o.Mark]
		if a.Port != o.From || o.From == o.To || had[[2]int{o.Id, o.To}] || o.Mark <= mark {
			t.Fatalf("%+v", o)
		}
		if d, over := done[o.Id]; over && (d.Why != api.Taken || d.Found >= 0 && d.Found != o.To) {
			t.Fatalf("%+v, of %+v", o, d)
		}
		if before, was := last[[2]int{o.From, o.To}]; was && before > o.Id {
			t.Fatalf("%+v is behind %d", o, before)
		}
		b, e := frame.Out(a.Bytes, send.Answer == model.Tagged, send.Op.Vid)
		if vid, _ := vlan.Class(a.Bytes, p.Rules[a.Port]); e != api.OK || vid != send.Op.Vid || send.Op.To != o.To || send.Answer < model.Bare || string(b) != string(o.Bytes) {
			t.Fatalf("%+v, by %+v", o, send)
		}
		had[[2]int{o.Id, o.To}], last[[2]int{o.From, o.To}], mark = true, o.Id, o.Mark
	}
}

// countsRight: of each two ports all that was offered is counted, but for one number at most at each port, that is taken, and of which it isn't told yet what comes of it.
func countsRight(t *testing.T, p model.Plan, s *bridge.Switch) bridge.Counts {
	t.Helper()
	var sum bridge.Counts
	for to := range p.Ports {
		untold := 0
		for from := range p.Ports {
			c := s.Counts(from, to)
			rest := c.Offered - c.Full - c.Sent - c.Late - c.Drained - c.Waits
			if rest < 0 || from == to && c != (bridge.Counts{}) {
				t.Fatalf("from %d to %d: %+v", from, to, c)
			}
			untold += rest
			sum.Offered += c.Offered
			sum.Full += c.Full
			sum.Sent += c.Sent
			sum.Late += c.Late
			sum.Drained += c.Drained
			sum.Waits += c.Waits
		}
		if untold > 1 || untold == 1 && s.Quiet() {
			t.Fatalf("to %d: of %d numbers nothing is told", to, untold)
		}
	}
	if sum.Sent != len(s.Out()) {
		t.Fatalf("%+v, but %d went out", sum, len(s.Out()))
	}
	return sum
}

// Whatever comes, and whatever is picked: a right history, frames that are as they should be, and counts that tell of all; in turn all comes to its end.
func TestWhateverComes(t *testing.T) {
	var sum bridge.Counts
	answers := map[[2]int]int{}
	for seed := range uint64(120) {
		x := &numbers{1000 + seed}
		p := small()[seed%5]
		s := newSwitch(t, p, float64(x.below(3)), 3)
		opened(s, x, p)
		for i, k := range picks(x, s.Tasks(), 1500) {
			something(s, x, p)
			s.Pick(k)
			if i%40 == 0 {
				right(t, p, s)
				framesRight(t, p, s)
			}
			if i%7 == 0 {
				countsRight(t, p, s)
			}
		}
		settle(t, s)
		quiet(t, p, s)
		framesRight(t, p, s)
		c := countsRight(t, p, s)
		sum.Full += c.Full
		sum.Sent += c.Sent
		sum.Late += c.Late
		sum.Drained += c.Drained
		for _, e := range s.Log() {
			answers[[2]int{e.Op.Kind, min(e.Answer, 5)}]++
		}
	}
	if sum.Full == 0 || sum.Sent == 0 || sum.Late == 0 || sum.Drained == 0 || answers[[2]int{model.Send, model.Stranger}] == 0 || answers[[2]int{model.Age, 1}] == 0 {
		t.Errorf("%+v, %v", sum, answers)
	}
}

// hard is a plan in which all meet: one bucket, rings of one number.
func hard(ports int) model.Plan {
	p := open(ports, 1)
	p.Size, p.Tries = book.Size{Shards: 1, Buckets: 1, Slots: 1}, 1
	return p
}

// Picked in turn Rounds rounds are enough, from wherever all of them are.
func TestEnoughRounds(t *testing.T) {
	for seed := range uint64(60) {
		x := &numbers{2000 + seed}
		p := []model.Plan{hard(2), hard(3), hard(9), plans()[3], plans()[4], open(16, 2)}[seed%6]
		s := newSwitch(t, p, 1e9, 1e9)
		opened(s, x, p)
		for _, k := range picks(x, s.Tasks(), 50*(1+x.below(40))) {
			something(s, x, p)
			s.Pick(k)
		}
		for range x.below(200) {
			something(s, x, p)
		}
		s.Sweep()
		settle(t, s)
		quiet(t, p, s)
	}
}

// Of frames that all go everywhere, and of orders that have all locks, all at once.
func TestRoundsOfTheWorst(t *testing.T) {
	for _, ports := range []int{2, 5, 24} {
		p := hard(ports)
		s := forwarding(t, p)
		for i := range 4 * ports {
			s.Arrive(i%ports, bytesOf(broadcast, station+1, -1))
			order(t, s, model.Op{Kind: model.SetVlan, Vid: 1, Members: vlan.All(ports)})
			order(t, s, model.Op{Kind: model.Flush, Port: -1, Vid: -1})
			order(t, s, model.Op{Kind: model.SetState, Port: i % ports, State: port.Forwarding})
		}
		s.Sweep()
		settle(t, s)
		quiet(t, p, s)
		framesRight(t, p, s)
		countsRight(t, p, s)
	}
}

// A frame, its Egress and an order meet, in all ways of some of their picks.
func TestAllWays(t *testing.T) {
	const count, ways = 6, 3 * 3 * 3 * 3 * 3 * 3
	never, sent := bridge.Counts{}, bridge.Counts{Offered: 1, Sent: 1}
	late, drained := bridge.Counts{Offered: 1, Late: 1}, bridge.Counts{Offered: 1, Drained: 1}
	for _, c := range []struct {
		o    model.Op
		want []bridge.Counts
	}{
		{model.Op{Kind: model.SetState, Port: 1, State: port.Blocking}, []bridge.Counts{sent, late, drained}}, {model.Op{Kind: model.SetVlan, Vid: 1, Members: 1}, []bridge.Counts{never, sent, late}},
		{model.Op{Kind: model.SetVlan, Vid: 1, Members: 2}, []bridge.Counts{never, sent}},
	} {
		p := hard(2)
		outcomes := map[bridge.Counts]bool{}
		for _, ahead := range []int{0, 10, 14} { // as often the frame is picked first
			for way := range ways {
				s := forwarding(t, p)
				s.Arrive(0, bytesOf(broadcast, station, -1))
				order(t, s, c.o)
				for range ahead {
					s.Pick(0)
				}
				for rest, i := way, 0; i < count; i++ {
					s.Pick([]int{0, 3, 5}[rest%3])
					s.Pick([]int{0, 3, 5}[rest%3])
					rest /= 3
				}
				settle(t, s)
				quiet(t, p, s)
				framesRight(t, p, s)
				outcomes[countsRight(t, p, s)] = true
			}
		}
		for _, want := range c.want {
			if !outcomes[want] {
				t.Errorf("%+v: never %+v", c.o, want)
			}
			delete(outcomes, want)
		}
		if len(outcomes) > 0 {
			t.Errorf("%+v: %+v", c.o, outcomes)
		}
	}
}

// The greatest plan, all at once.
func TestTheGreatest(t *testing.T) {
	p := plans()[5]
	s := newSwitch(t, p, 5, 5)
	x := &numbers{7}
	for i := range p.Ports {
		order(t, s, model.Op{Kind: model.SetState, Port: i, State: port.Forwarding})
	}
	settle(t, s)
	for i, k := range turn.Mixed(s.Tasks(), 40000, 7) {
		if i%12 == 0 {
			something(s, x, p)
		}
		s.Pick(k)
		if i%8000 == 0 {
			right(t, p, s)
			framesRight(t, p, s)
			countsRight(t, p, s)
		}
	}
	settle(t, s)
	quiet(t, p, s)
	framesRight(t, p, s)
	countsRight(t, p, s)
}
