package ingress_test

import (
	"slices"
	"testing"

	"patchbay/api"
	"patchbay/bucket"
	"patchbay/gauge"
	"patchbay/hist"
	"patchbay/ingress"
	"patchbay/key"
	"patchbay/mac"
	"patchbay/model"
	"patchbay/port"
	"patchbay/turn"
)

func (w *world) keyOf(vid, n int) key.Key {
	return key.Key{Vid: vid, Mac: station + mac.Mac(n)}
}

// Frames and orders, one behind the other: all is as on a model, thing by thing; a frame that isn't taken changes nothing.
func TestAlone(t *testing.T) {
	whys := map[api.Why]int{}
	for seed := range uint64(120) {
		x := &numbers{seed}
		p := small()[seed%4]
		g := gauge.New(0.25, 2, 0)
		w := newWorld(t, p, g)
		m, _ := model.New(p)
		gauges := slices.Repeat([]gauge.Gauge{g}, p.Ports)
		for id := range 60 {
			if x.below(3) == 0 {
				o := x.order(p)
				w.order(o)
				m, _ = hist.Replay(p, w.log())
			}
			a, at := x.frame(id), x.below(p.Ports)
			before := w.f.Shape()
			want := plain(p, at, &gauges[at], a, m.Do)
			got := w.in(at, a)
			if !sameDone(got, want) {
				t.Fatalf("%+v, not %+v", got, want)
			}
			whys[got.Why]++
			if got.Why != api.Taken && !same(before, w.f.Shape()) || !same(m.Shape(), w.f.Shape()) {
				t.Fatalf("%+v: %+v, not %+v", got, w.f.Shape(), m.Shape())
			}
		}
		w.quiet()
	}
	for why := range api.Why(api.Reasons) {
		if whys[why] == 0 {
			t.Error("never", why)
		}
	}
}

// Frames at all ports, and orders, and who takes and reads, as is picked: a right history at any time; each frame as its things answered.
func TestWhateverIsPicked(t *testing.T) {
	learned, found, full, whys := map[int]int{}, map[bool]int{}, 0, map[api.Why]int{}
	for seed := range uint64(120) {
		x := &numbers{seed}
		p := small()[1+seed%3]
		w := newWorld(t, p, gauge.New(2, 3, 0))
		for i := range p.Ports {
			w.order(model.Op{Kind: model.SetState, Port: i, State: 3 + min(x.below(4), 1)})
		}
		n := p.Ports + 3
		for i, who := range [][]int{turn.Mixed(n, 1200, seed), turn.Bursts(n, 1200, 2+int(seed%20), seed), turn.Round(n, 1200)}[seed/4%3] {
			w.pick(x, who)
			if i%9 == 0 {
				w.right()
			}
		}
		w.finish()
		for _, d := range w.doors {
			for _, one := range d.x.Done() {
				learned[one.Learned]++
				found[one.Found >= 0]++
				full += len(one.Full)
				whys[one.Why]++
			}
		}
	}
	for i := -1; i <= bucket.Refused; i++ {
		if learned[i] == 0 {
			t.Error("never learned", i)
		}
	}
	for why := range api.Why(api.Reasons) {
		if whys[why] == 0 {
			t.Error("never", why)
		}
	}
	if found[false] == 0 || found[true] == 0 || full == 0 {
		t.Error(found, full)
	}
}

// pick: who goes on, or begins the next thing: the ports' Ingresses, the orders, who takes, who reads.
func (w *world) pick(x *numbers, who int) {
	switch {
	case who < w.p.Ports:
		if w.doors[who].x.Idle() {
			w.next++
			w.begin(who, x.frame(w.next))
		}
		w.step(who)
	case who == w.p.Ports:
		if w.act == nil {
			w.command(x.order(w.p))
		}
		w.goOn()
	case who == w.p.Ports+1 && x.below(20) == 0:
		w.take(x.below(w.p.Ports), x.below(w.p.Ports))
	default:
		w.look(x.below(w.p.Ports))
	}
}

func (w *world) finish() {
	w.t.Helper()
	for range 3000 {
		idle := w.act == nil || w.goOn()
		for i := range w.p.Ports {
			idle = w.step(i) && idle
		}
		if idle {
			w.quiet()
			return
		}
	}
	w.t.Fatal("there is no end")
}

// Two frames of one station come in at two ports at once, in all ways of some of their steps: it is where it was learned last.
func TestAllWaysOfTwoFrames(t *testing.T) {
	const ways = 1 << 11
	p := plans()[1]
	p.Vlans[0].Members, p.Vlans[1].Members = 3, 3
	ports, found := map[int]int{}, map[int]int{}
	for _, ahead := range []int{0, 12} { // there its Learn took effect
		for way := range ways {
			w := forwarding(t, p, everything)
			w.inNext(0, station+2, station+1, 1)
			w.take(0, 1)
			w.begin(0, arrival{id: 5, b: bytesOf(station+2, station+1, 1), now: 9})
			w.begin(1, arrival{id: 6, b: bytesOf(station+1, station+1, 1), now: 9})
			for range ahead {
				w.step(1)
			}
			for bits := ways + way; bits > 0; bits /= 2 {
				w.step(bits % 2)
			}
			w.finish()
			marks := w.learned()
			m, _ := hist.Replay(p, w.log())
			at := m.Do(model.Op{Kind: model.Lookup, Key: w.keyOf(1, 1)})
			if (at == 1) != (marks[1] > marks[0]) {
				t.Fatalf("it is at %d: %v", at, marks)
			}
			ports[at]++
			found[w.doors[1].x.Done()[0].Found]++
		}
	}
	if ports[0] == 0 || ports[1] == 0 || found[0] == 0 || found[1] == 0 {
		t.Error(ports, found)
	}
}

// learned are the Marks of what each port learned last.
func (w *world) learned() []int {
	l := make([]int, w.p.Ports)
	for i, d := range w.doors {
		for _, e := range d.x.Log() {
			if e.Op.Kind == model.Learn {
				l[i] = e.Mark
			}
		}
	}
	return l
}

// All is changed by an order between a frame's steps: what was read ahead of that counts.
func TestWhatWasReadCounts(t *testing.T) {
	for at := range 40 {
		for _, o := range []model.Op{{Kind: model.SetState, Port: 0, State: port.Disabled}, {Kind: model.SetState, Port: 2, State: port.Disabled}, {Kind: model.SetVlan, Vid: 2, Members: 2}, {Kind: model.Flush, Port: -1, Vid: -1}} {
			w := forwarding(t, plans()[2], everything)
			w.inNext(2, station+1, station+2, 2)
			w.begin(0, arrival{id: 5, b: bytesOf(station+2, station+1, 2), now: 9})
			for range at {
				w.step(0)
			}
			w.command(o)
			for range 60 {
				if w.goOn() {
					break
				}
			}
			w.right()
			w.finish()
			want := ingress.Done{Id: 5, Vid: 2, Learned: bucket.New, Found: 2, To: []int{2}}
			switch {
			case o.Kind == model.SetVlan && at < 1:
				want = ingress.Done{Id: 5, Vid: 2, Why: api.Member, Learned: -1, Found: -2}
			case o.Kind == model.SetState && o.Port == 0 && at < 2:
				want = ingress.Done{Id: 5, Vid: 2, Why: api.State, Learned: -1, Found: -2}
			case o.Kind == model.Flush:
				continue // told holds it against its Log
			}
			if d := w.doors[0].x.Done()[0]; !sameDone(d, want) {
				t.Errorf("%+v behind %d steps: %+v", o, at, d)
			}
		}
	}
}

// Many at once, at the greatest of plans.
func TestTheGreatestAtOnce(t *testing.T) {
	w := forwarding(t, plans()[4], everything)
	for i := range w.p.Ports {
		w.begin(i, arrival{id: i, b: bytesOf(station+mac.Mac(1+(i+1)%64), station+mac.Mac(1+i), 1+i%16), now: 5})
	}
	for _, who := range turn.Mixed(w.p.Ports, 20000, 3) {
		w.step(who)
	}
	w.finish()
	for _, d := range w.doors {
		if one := d.x.Done()[0]; one.Why != api.Taken && one.Why != api.Member {
			t.Errorf("%+v", one)
		}
	}
}

// Behind a frame that isn't over nothing else is told.
func TestDoneInOrder(t *testing.T) {
	w := forwarding(t, plans()[3], everything)
	x := &numbers{3}
	for id := range 50 {
		w.in(2, x.frame(1000-id))
	}
	var ids []int
	for _, d := range w.doors[2].x.Done() {
		ids = append(ids, d.Id)
	}
	for i, id := range ids {
		if id != 1000-i {
			t.Fatal(ids)
		}
	}
	var none []ingress.Done
	if got := w.doors[1].x.Done(); len(got) != len(none) {
		t.Error(got)
	}
}
