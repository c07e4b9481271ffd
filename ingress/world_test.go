package ingress_test

import (
	"slices"
	"testing"

	"patchbay/api"
	"patchbay/book"
	"patchbay/ctl"
	"patchbay/frame"
	"patchbay/gauge"
	"patchbay/hist"
	"patchbay/ingress"
	"patchbay/key"
	"patchbay/mac"
	"patchbay/model"
	"patchbay/port"
	"patchbay/turn"
	"patchbay/vlan"
)

const (
	station   = mac.Mac(0x020000000000) // of station 0: of others so many more
	broadcast = mac.Mac(0xffffffffffff)
	group     = mac.Mac(0x01005e000001)
	reserved  = mac.Mac(0x0180c200000e)
)

var everything = gauge.New(1, 1e9, 0)

// planOf is a plan of so many ports, that have VLANs 1 to so many, but for one port each; each port has the VLAN of one of them.
func planOf(ports, vlans int, size book.Size, ring int) model.Plan {
	p := model.Plan{Ports: ports, Size: size, Tries: 2, Ring: ring, Normal: 300, Short: 15}
	for i := range ports {
		p.Rules = append(p.Rules, vlan.Rule{Pvid: 1 + i%(vlans+1)}) // of the last one there is no VLAN
	}
	for i := range vlans {
		members := vlan.All(ports) &^ (vlan.Set(1) << (i % ports))
		p.Vlans = append(p.Vlans, vlan.Vlan{Vid: i + 1, Members: members, Untagged: members & 0x5555555555555555})
	}
	return p
}

// plans may be: at the limits, and between; the last one is the greatest.
func plans() []model.Plan {
	l := []model.Plan{
		planOf(2, 0, book.Size{Shards: 1, Buckets: 1, Slots: 1}, 1),
		planOf(2, 2, book.Size{Shards: 1, Buckets: 1, Slots: 2}, 1),
		planOf(4, 2, book.Size{Shards: 2, Buckets: 1, Slots: 2}, 2),
		planOf(5, 3, book.Size{Shards: 2, Buckets: 2, Slots: 2}, 8),
		planOf(64, 16, book.Size{Shards: 8, Buckets: 16, Slots: 8}, 64),
	}
	l[3].Rules[2].Accept, l[3].Rules[4].Accept = vlan.OnlyTagged, vlan.OnlyUntagged
	return l
}

func small() []model.Plan { return plans()[:4] }

// bytesOf is a frame's bytes: without a tag if tci is below 0.
func bytesOf(dst, src mac.Mac, tci int) []byte {
	f := frame.Frame{Dst: dst, Src: src, Type: 0x800, Load: []byte("hello")}
	if tci >= 0 {
		f.Tagged, f.Tci = true, uint16(tci)
	}
	b, e := frame.Write(f)
	if e != api.OK {
		panic(e)
	}
	return b
}

// arrival is a frame that came.
type arrival struct {
	id  int
	b   []byte
	now uint32
}

// numbers are made one out of another one.
type numbers struct{ seed uint64 }

// below is one of 0 to n - 1.
func (x *numbers) below(n int) int {
	x.seed = turn.Mix(x.seed)
	return int(x.seed >> 1 % uint64(n))
}

// frame is a frame of few stations: most are taken, if the port does so; some can't be.
func (x *numbers) frame(id int) arrival {
	dst, src, tci := station+mac.Mac(1+x.below(5)), station+mac.Mac(1+x.below(5)), x.below(5)-1
	switch x.below(12) {
	case 0, 1:
		dst = []mac.Mac{broadcast, group, group + 1}[x.below(3)]
	case 2:
		dst = []mac.Mac{0, reserved, 0x0180c2000010}[x.below(3)]
	case 3:
		src = []mac.Mac{0, broadcast, group}[x.below(3)]
	case 4:
		tci = []int{0, 0xe000, 4095, 0x1001, 77}[x.below(5)]
	}
	b := bytesOf(dst, src, tci)
	switch x.below(40) {
	case 0:
		b = b[:x.below(60)]
	case 1:
		b = append(b, make([]byte, 1519)...)
	case 2:
		b[12], b[13] = 5, 0xff
	}
	return arrival{id: id, b: b, now: uint32(x.below(40))}
}

// order is one that can be carried out.
func (x *numbers) order(p model.Plan) model.Op {
	o := model.Op{
		Port: x.below(p.Ports), Vid: 1 + x.below(max(len(p.Vlans), 1)), State: x.below(8), Members: vlan.Set(turn.Mix(x.seed)), Untagged: vlan.Set(turn.Mix(x.seed + 1)),
		Key: key.Key{Vid: 1 + x.below(3), Mac: station + mac.Mac(1+x.below(5))},
	}
	o.State = min(o.State, port.Forwarding) // most of all that
	o.Kind = []int{model.Order, model.Drop, model.Flush, model.SetState, model.SetState, model.SetVlan}[x.below(6)]
	if o.Kind == model.SetVlan && len(p.Vlans) == 0 {
		o.Kind = model.Drop
	}
	if o.Kind == model.Flush {
		o.Vid = -1
	}
	return o
}

// plain is what becomes of a frame, by the chapter's words, one thing behind the other; do does a thing, and answers.
func plain(p model.Plan, at int, g *gauge.Gauge, a arrival, do func(o model.Op) int) ingress.Done {
	d := ingress.Done{Id: a.id, Learned: -1, Found: -2}
	vid, why := vlan.Class(a.b, p.Rules[at])
	if why != api.Taken {
		d.Why = why
		return d
	}
	d.Vid = vid
	if d.Why = vlan.Enter(p.Vlans, vid, -1); d.Why == api.Vlan {
		return d
	}
	members := vlan.Set(do(model.Op{Kind: model.GetMembers, Vid: vid}))
	if d.Why = api.Member; !vlan.Has(members, at) {
		return d
	}
	f, _ := frame.Parse(a.b)
	if mac.Kind(f.Dst) != mac.Unicast {
		var may bool
		*g, may = gauge.Take(*g, a.now)
		if d.Why = api.Storm; !may {
			return d
		}
	}
	state := do(model.Op{Kind: model.GetState, Port: at})
	if d.Why = api.State; !port.Learns(state) {
		return d
	}
	d.Why = api.Taken
	src, dst := key.Key{Vid: vid, Mac: f.Src}, key.Key{Vid: vid, Mac: f.Dst}
	if key.Right(src) {
		d.Learned = do(model.Op{Kind: model.Learn, Key: src, Port: at, Now: a.now})
	}
	if !port.Forwards(state) {
		return d
	}
	to := vlan.List(vlan.Without(members, at))
	if key.Right(dst) {
		d.Found = do(model.Op{Kind: model.Lookup, Key: dst})
		if d.Found == at {
			return d
		}
		if d.Found >= 0 {
			to = []int{d.Found}
		}
	}
	for _, i := range to {
		if do(model.Op{Kind: model.Put, Port: at, To: i, Id: a.id<<12 | vid}) == 1 {
			d.To = append(d.To, i)
		} else {
			d.Full = append(d.Full, i)
		}
	}
	return d
}

func sameDone(a, b ingress.Done) bool {
	return a.Id == b.Id && a.Why == b.Why && a.Vid == b.Vid && a.Learned == b.Learned && a.Found == b.Found && slices.Equal(a.To, b.To) && slices.Equal(a.Full, b.Full)
}

func sameLists[T comparable](a, b [][]T) bool { return slices.EqualFunc(a, b, slices.Equal[[]T]) }

func same(a, b model.Shape) bool {
	return slices.Equal(a.Stands, b.Stands) && slices.Equal(a.Vlans, b.Vlans) && sameLists(a.Buckets, b.Buckets) && slices.EqualFunc(a.Queues, b.Queues, sameLists[int])
}

// door is an Ingress, and what came there.
type door struct {
	x     *ingress.Ingress
	p     int
	first gauge.Gauge // as it was at the beginning
	came  []arrival
}

// world is a fabric with an Ingress at each port, and who orders, takes, and reads.
type world struct {
	t     *testing.T
	p     model.Plan
	f     *ctl.Fabric
	doors []*door
	next  int // the next frame's number

	act    *ctl.Act // the order under way
	orders []hist.Entry
	taken  []hist.Entry // by take
	read   []hist.Entry
}

// Who else there is.
const (
	control = 900 + iota
	taker
	reader
)

func newWorld(t *testing.T, p model.Plan, g gauge.Gauge) *world {
	t.Helper()
	f, e := ctl.Make(p)
	if e != api.OK {
		t.Fatal(e)
	}
	w := &world{t: t, p: p, f: f}
	for i := range p.Ports {
		x, e := ingress.New(f, i, 100+i, g)
		if x == nil || e != api.OK {
			t.Fatal(i, e)
		}
		w.doors = append(w.doors, &door{x: x, p: i, first: g})
	}
	return w
}

// begin: a frame comes in at a port.
func (w *world) begin(at int, a arrival) {
	w.t.Helper()
	d, before := w.doors[at], w.f.Mem().Time()
	d.came = append(d.came, a)
	if !d.x.Idle() || !d.x.Begin(a.id, a.b, a.now) || d.x.Idle() || d.x.Begin(a.id, a.b, a.now) || w.f.Mem().Time() != before {
		w.t.Fatalf("%+v can't be begun, or twice", a)
	}
}

// step: the Ingress at a port goes on, by one step of the memory at most.
func (w *world) step(at int) bool {
	w.t.Helper()
	x, before := w.doors[at].x, w.f.Mem().Time()
	was, dones := x.Idle(), len(x.Done())
	idle := x.Step()
	if n := w.f.Mem().Time() - before; n > 1 || was && n > 0 || idle != x.Idle() || was && !idle || len(x.Done())-dones != number(idle && !was) {
		w.t.Fatalf("a Step of %d steps: idle %v, %v, %v, Done of %d", n, was, idle, x.Idle(), len(x.Done())-dones)
	}
	return idle
}

func number(b bool) int {
	if b {
		return 1
	}
	return 0
}

// in does a frame that nobody else meets, within Bound.
func (w *world) in(at int, a arrival) ingress.Done {
	w.t.Helper()
	w.begin(at, a)
	for steps := 1; !w.step(at); steps++ {
		if steps >= ingress.Bound(w.f) {
			w.t.Fatalf("%+v isn't over within Bound", a)
		}
	}
	l := w.doors[at].x.Done()
	return l[len(l)-1]
}

// inNext does the next frame of these stations.
func (w *world) inNext(at int, dst, src mac.Mac, tci int) ingress.Done {
	w.t.Helper()
	w.next++
	return w.in(at, arrival{id: w.next, b: bytesOf(dst, src, tci), now: uint32(w.next)})
}

// order carries an order out, whoever else is in its midst.
func (w *world) order(o model.Op) {
	w.t.Helper()
	w.command(o)
	for range 100000 {
		if w.goOn() {
			return
		}
	}
	w.t.Fatalf("%+v has no end", o)
}

func (w *world) command(o model.Op) {
	w.t.Helper()
	w.act = w.f.Command(control, o)
	if w.act == nil {
		w.t.Fatalf("%+v can't be", o)
	}
}

func (w *world) goOn() bool {
	if !w.act.Step() {
		return false
	}
	w.orders = append(w.orders, w.act.Log()...)
	w.act = nil
	return true
}

// take takes from a ring to a port, with the port's lock, if that is free.
func (w *world) take(from, to int) {
	if !w.f.Take(to, taker) {
		return
	}
	e := hist.Entry{Who: taker, Begin: w.f.Mem().Time(), Op: model.Op{Kind: model.Get, Port: from, To: to}, Answer: -1}
	a := w.f.Ring(from, to).Pop()
	for !a.Step() {
	}
	if a.Ok() {
		e.Answer = int(a.Value())
	}
	e.Mark = a.Mark()
	e.End = e.Mark
	w.taken = append(w.taken, e)
	w.f.Free(to, taker)
}

// look reads a port's Stand.
func (w *world) look(at int) {
	before := w.f.Mem().Time()
	w.read = append(w.read, hist.Entry{Who: reader, Begin: before, Mark: before + 1, End: before + 1, Op: model.Op{Kind: model.GetState, Port: at}, Answer: w.f.Stand(at).State})
}

// log is what all did.
func (w *world) log() []hist.Entry {
	l := slices.Concat(w.orders, w.taken, w.read)
	l = append(l, w.act.Log()...)
	for _, d := range w.doors {
		l = append(l, d.x.Log()...)
	}
	return l
}

// right: what was done by now is a right history.
func (w *world) right() {
	w.t.Helper()
	l := w.log()
	if i, e := hist.Check(w.p, l); i != -1 || e != api.OK {
		w.t.Fatalf("error %d at %d: %+v", e, i, l[max(i, 0)])
	}
}

// quiet: when all are idle all stands as the model has it, and each frame was done as the chapter says, by the answers in the Log.
func (w *world) quiet() {
	w.t.Helper()
	w.right()
	m, _ := hist.Replay(w.p, w.log())
	if !same(w.f.Shape(), m.Shape()) {
		w.t.Fatalf("%+v, not %+v", w.f.Shape(), m.Shape())
	}
	for _, d := range w.doors {
		w.told(d)
	}
	for l := range w.f.Mem().Locks() {
		if n := w.f.Mem().Holder(l); n != -1 {
			w.t.Fatalf("lock %d is %d's", l, n)
		}
	}
}

// told: what an Ingress tells of its frames is as the things in its Log answered, and these are what had to be done.
func (w *world) told(d *door) {
	w.t.Helper()
	l, done, g := d.x.Log(), d.x.Done(), d.first
	if !d.x.Idle() || len(done) != len(d.came) {
		w.t.Fatalf("at %d: %d came, %d are over", d.p, len(d.came), len(done))
	}
	for i, a := range d.came {
		want := plain(w.p, d.p, &g, a, func(o model.Op) int {
			w.t.Helper()
			if len(l) == 0 || l[0].Op != o || l[0].Who != 100+d.p || l[0].End == 0 {
				w.t.Fatalf("at %d: of %+v %+v isn't there: %+v", d.p, a, o, l[:min(1, len(l))])
			}
			e := l[0]
			l = l[1:]
			return e.Answer
		})
		if !sameDone(done[i], want) {
			w.t.Fatalf("at %d: %+v, not %+v", d.p, done[i], want)
		}
	}
	if len(l) > 0 {
		w.t.Fatalf("at %d: too much was done: %+v", d.p, l)
	}
}
