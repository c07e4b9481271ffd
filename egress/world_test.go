package egress_test

import (
	"slices"
	"testing"

	"patchbay/api"
	"patchbay/book"
	"patchbay/ctl"
	"patchbay/egress"
	"patchbay/hist"
	"patchbay/ingress"
	"patchbay/model"
	"patchbay/port"
	"patchbay/ring"
	"patchbay/turn"
	"patchbay/vlan"
)

// planOf is a plan of so many ports, that have VLANs 1 to so many, but for one port each.
func planOf(ports, vlans int, ring int) model.Plan {
	p := model.Plan{Ports: ports, Size: book.Size{Shards: 1, Buckets: 1, Slots: 1}, Tries: 1, Ring: ring, Normal: 300, Short: 15}
	for range ports {
		p.Rules = append(p.Rules, vlan.Rule{Pvid: 1})
	}
	for i := range vlans {
		members := vlan.All(ports) &^ (vlan.Set(1) << (i % ports))
		p.Vlans = append(p.Vlans, vlan.Vlan{Vid: i + 1, Members: members, Untagged: members & 0x5555555555555555})
	}
	return p
}

// plans may be: at the limits, and between; the last one is the greatest.
func plans() []model.Plan {
	return []model.Plan{planOf(2, 0, 1), planOf(2, 1, 1), planOf(3, 2, 2), planOf(5, 3, 4), planOf(64, 16, 64)}
}

func small() []model.Plan { return plans()[:4] }

// numbers are made one out of another one.
type numbers struct{ seed uint64 }

// below is one of 0 to n - 1.
func (x *numbers) below(n int) int {
	x.seed = turn.Mix(x.seed)
	return int(x.seed >> 1 % uint64(n))
}

// order is one that changes what becomes of numbers, or doesn't.
func (x *numbers) order(p model.Plan) model.Op {
	o := model.Op{
		Kind: []int{model.SetState, model.SetState, model.SetVlan, model.Flush}[x.below(4)], Port: x.below(p.Ports), Vid: 1 + x.below(max(len(p.Vlans), 1)),
		State: min(x.below(9), port.Forwarding), Members: vlan.Set(turn.Mix(x.seed)), Untagged: vlan.Set(turn.Mix(x.seed + 1)),
	}
	if o.Kind == model.SetVlan && len(p.Vlans) == 0 {
		o.Kind = model.Flush
	}
	return o
}

// ticket is one of a frame's number: of one of the plan's VLANs, or now and then of none.
func (x *numbers) ticket(p model.Plan, id int) int {
	vid := x.below(len(p.Vlans) + 2)
	if x.below(20) == 0 {
		vid = 4095
	}
	return ingress.Ticket(id, vid)
}

// offer is a number that is being put.
type offer struct {
	entry hist.Entry
	act   *ring.Act
}

// Who else there is, beside the Egresses, that are 100 and their port's number.
const (
	putting  = 300 // and the port from which that one puts
	control  = 900
	stranger = 999
)

// world is a fabric with an Egress at each port, and who puts, and orders.
type world struct {
	t      *testing.T
	p      model.Plan
	f      *ctl.Fabric
	out    []*egress.Egress
	id     int
	put    []hist.Entry   // Puts that are over
	offers map[int]*offer // that are under way, by the port from which they are
	act    *ctl.Act
	orders []hist.Entry
	shut   []bool // of each port: is a SetState to another state than Forwarding over, and none to Forwarding begun?
}

func newWorld(t *testing.T, p model.Plan) *world {
	t.Helper()
	f, e := ctl.Make(p)
	if e != api.OK {
		t.Fatal(e)
	}
	w := &world{t: t, p: p, f: f, offers: map[int]*offer{}, shut: slices.Repeat([]bool{true}, p.Ports)}
	for i := range p.Ports {
		x, e := egress.New(f, i, 100+i)
		if x == nil || e != api.OK {
			t.Fatal(i, e)
		}
		w.out = append(w.out, x)
	}
	return w
}

// forwarding is a world in which all ports are Forwarding.
func forwarding(t *testing.T, p model.Plan) *world {
	t.Helper()
	w := newWorld(t, p)
	for i := range p.Ports {
		w.order(model.Op{Kind: model.SetState, Port: i, State: port.Forwarding})
	}
	return w
}

// offer begins a Put.
func (w *world) offer(from, to, ticket int) {
	w.t.Helper()
	o := &offer{act: w.f.Ring(from, to).Push(uint64(ticket))}
	o.entry = hist.Entry{Who: putting + from, Begin: w.f.Mem().Time(), Op: model.Op{Kind: model.Put, Port: from, To: to, Id: ticket}}
	w.offers[from] = o
}

// goOnPutting makes a step of the Put from a port; is it over?
func (w *world) goOnPutting(from int) bool {
	o := w.offers[from]
	if !o.act.Step() {
		return false
	}
	o.entry.Mark, o.entry.End, o.entry.Answer = o.act.Mark(), o.act.Mark(), number(o.act.Ok())
	w.put = append(w.put, o.entry)
	delete(w.offers, from)
	return true
}

func number(b bool) int {
	if b {
		return 1
	}
	return 0
}

// puts does a whole Put.
func (w *world) puts(from, to, ticket int) {
	w.t.Helper()
	w.offer(from, to, ticket)
	for !w.goOnPutting(from) {
	}
}

// fill puts numbers into rings to a port, from each one as many as x says.
func (w *world) fill(x *numbers, to int) {
	w.t.Helper()
	for from := range w.p.Ports {
		for range x.below(w.p.Ring + 1) {
			w.id++
			w.puts(from, to, x.ticket(w.p, w.id))
		}
	}
}

func (w *world) command(o model.Op) {
	w.t.Helper()
	w.act = w.f.Command(control, o)
	if w.act == nil {
		w.t.Fatalf("%+v can't be", o)
	}
	if o.Kind == model.SetState && o.State == port.Forwarding {
		w.shut[o.Port] = false
	}
}

// goOnOrdering makes a step of the order; is it over?
func (w *world) goOnOrdering() bool {
	if !w.act.Step() {
		return false
	}
	l := w.act.Log()
	if o := l[0].Op; o.Kind == model.SetState && o.State != port.Forwarding {
		w.shut[o.Port] = true
	}
	w.orders = append(w.orders, l...)
	w.act = nil
	return true
}

func (w *world) order(o model.Op) {
	w.t.Helper()
	w.command(o)
	for range 100000 {
		if w.goOnOrdering() {
			return
		}
	}
	w.t.Fatalf("%+v has no end", o)
}

// step: the Egress at a port goes on, by one step of the memory at most; while the port is shut all that is told is that.
func (w *world) step(at int) bool {
	w.t.Helper()
	x, before := w.out[at], w.f.Mem().Time()
	was, waits, sent := x.Idle(), x.Waits(), len(x.Sent())
	if w.f.Mem().Time() != before {
		w.t.Fatal("a look made steps")
	}
	idle := x.Step()
	n := w.f.Mem().Time() - before
	if n > 1 || idle != x.Idle() || was && !waits && (n > 0 || !idle) || was && waits && (n == 0 || idle) {
		w.t.Fatalf("a Step of %d steps: idle %v, %v; it waited: %v", n, was, idle, waits)
	}
	told := x.Sent()[sent:]
	if len(told) > 1 || len(told) == 1 && w.shut[at] && told[0].How != model.Shut {
		w.t.Fatalf("port %d is shut, and %+v goes out", at, told)
	}
	return idle
}

// next does one number that nobody else meets, within Bound.
func (w *world) next(at int) egress.Sent {
	w.t.Helper()
	was := w.out[at].Sent()
	for steps := 1; !w.step(at); steps++ {
		if steps >= egress.Bound(w.f) {
			w.t.Fatal("it isn't done within Bound")
		}
	}
	is := w.out[at].Sent()
	if len(is) != len(was)+1 || !slices.Equal(is[:len(was)], was) {
		w.t.Fatalf("%+v, and then %+v", was, is)
	}
	if !w.f.Take(at, stranger) || !w.f.Free(at, stranger) {
		w.t.Fatal("an idle one has the port's lock")
	}
	return is[len(was)]
}

// log is what all did.
func (w *world) log() []hist.Entry {
	l := slices.Concat(w.orders, w.act.Log(), w.put)
	for _, o := range w.offers {
		o.entry.Mark = o.act.Mark()
		l = append(l, o.entry)
	}
	for _, x := range w.out {
		l = append(l, x.Log()...)
	}
	return l
}

// right: what was done by now is a right history.
func (w *world) right() {
	w.t.Helper()
	l := w.log()
	if i, e := hist.Check(w.p, l); i != -1 || e != api.OK {
		w.t.Fatalf("error %d at %d: %+v", e, i, l[max(i, 0)])
	}
}

func sameLists[T comparable](a, b [][]T) bool { return slices.EqualFunc(a, b, slices.Equal[[]T]) }

func same(a, b model.Shape) bool {
	return slices.Equal(a.Stands, b.Stands) && slices.Equal(a.Vlans, b.Vlans) && sameLists(a.Buckets, b.Buckets) && slices.EqualFunc(a.Queues, b.Queues, sameLists[int])
}

// quiet: when all are idle all stands as the model has it, no lock is anybody's, and all that is told is as it is in the Logs.
func (w *world) quiet() {
	w.t.Helper()
	w.right()
	m, _ := hist.Replay(w.p, w.log())
	if !same(w.f.Shape(), m.Shape()) {
		w.t.Fatalf("%+v, not %+v", w.f.Shape(), m.Shape())
	}
	for l := range w.f.Mem().Locks() {
		if n := w.f.Mem().Holder(l); n != -1 {
			w.t.Fatalf("lock %d is %d's", l, n)
		}
	}
	for at := range w.out {
		w.told(at)
	}
	w.inOrder()
}

// told: the Log of an Egress is a Get and a Send of each number that it tells of.
func (w *world) told(at int) {
	w.t.Helper()
	var want []hist.Entry
	who := 100 + at
	for _, s := range w.out[at].Sent() {
		if s.To != at {
			w.t.Fatalf("at %d: %+v", at, s)
		}
		get, send := model.Op{Kind: model.Get, Port: s.From, To: at}, model.Op{Kind: model.Send, To: at, Vid: s.Ticket & 4095}
		want = append(want, hist.Entry{Who: who, Op: get, Answer: s.Ticket}, hist.Entry{Who: who, Op: send, Answer: s.How, Mark: s.Mark})
	}
	got, ahead := w.out[at].Log(), 0
	for i, e := range got {
		if e.Begin < ahead || e.Mark <= e.Begin || e.End < e.Mark {
			w.t.Fatalf("at %d: the times of %+v", at, e)
		}
		ahead = e.End
		got[i].Begin, got[i].End = 0, 0
		if e.Op.Kind == model.Get {
			got[i].Mark = 0
		}
	}
	if !slices.Equal(got, want) {
		w.t.Fatalf("at %d: %+v, not %+v", at, got, want)
	}
}

// inOrder: from each ring numbers were taken, by whom ever, in the order in which they were put.
func (w *world) inOrder() {
	w.t.Helper()
	l := w.log()
	put, took := map[[2]int][]int{}, map[[2]int][]int{}
	for _, i := range hist.Order(l) {
		e := l[i]
		pair := [2]int{e.Op.Port, e.Op.To}
		if e.Op.Kind == model.Put && e.Answer == 1 {
			put[pair] = append(put[pair], e.Op.Id)
		}
		if e.Op.Kind == model.Get {
			took[pair] = append(took[pair], e.Answer)
		}
	}
	for pair, ids := range took {
		if len(ids) > len(put[pair]) || !slices.Equal(ids, put[pair][:len(ids)]) {
			w.t.Fatalf("of %v: %v, not %v", pair, ids, put[pair])
		}
	}
}
