package ctl_test

import (
	"slices"
	"testing"

	"patchbay/api"
	"patchbay/book"
	"patchbay/ctl"
	"patchbay/fdb"
	"patchbay/hist"
	"patchbay/key"
	"patchbay/mac"
	"patchbay/model"
	"patchbay/port"
	"patchbay/ring"
	"patchbay/turn"
	"patchbay/vlan"
)

// stranger is a who that nobody else is.
const stranger = 999

// planOf is a plan of so many ports, that have VLANs 1 to so many, but for one port each.
func planOf(ports, vlans int, size book.Size, ring int) model.Plan {
	p := model.Plan{Ports: ports, Size: size, Tries: 2, Ring: ring, Normal: 300, Short: 15}
	for range ports {
		p.Rules = append(p.Rules, vlan.Rule{Pvid: 1})
	}
	for i := range vlans {
		members := vlan.All(ports) &^ (vlan.Set(1) << (i % ports))
		p.Vlans = append(p.Vlans, vlan.Vlan{Vid: i + 1, Members: members, Untagged: members & 0x5555555555555555})
	}
	return p
}

// plans may be: at the limits, and between; the last one is the greatest.
func plans() []model.Plan {
	return []model.Plan{
		planOf(2, 0, book.Size{Shards: 1, Buckets: 1, Slots: 1}, 1),
		planOf(3, 2, book.Size{Shards: 2, Buckets: 1, Slots: 2}, 2),
		planOf(5, 3, book.Size{Shards: 2, Buckets: 2, Slots: 1}, 3),
		planOf(64, 16, book.Size{Shards: 8, Buckets: 16, Slots: 8}, 64),
	}
}

// small are plans that are done fast.
func small() []model.Plan { return plans()[:3] }

// fabric is one of a plan that may be.
func fabric(t *testing.T, p model.Plan) *ctl.Fabric {
	t.Helper()
	f, e := ctl.Make(p)
	if f == nil || e != api.OK {
		t.Fatal(p, e)
	}
	return f
}

func sameLists[T comparable](a, b [][]T) bool { return slices.EqualFunc(a, b, slices.Equal[[]T]) }

func same(a, b model.Shape) bool {
	return slices.Equal(a.Stands, b.Stands) && slices.Equal(a.Vlans, b.Vlans) && sameLists(a.Buckets, b.Buckets) && slices.EqualFunc(a.Queues, b.Queues, sameLists[int])
}

// numbers are made one out of another one.
type numbers struct{ seed uint64 }

// below is one of 0 to n - 1.
func (x *numbers) below(n int) int {
	x.seed = turn.Mix(x.seed)
	return int(x.seed >> 1 % uint64(n))
}

// station is one of a few.
func (x *numbers) station() key.Key {
	return key.Key{Vid: 1 + x.below(2), Mac: mac.Mac(0x020000000001 + x.below(5))}
}

// vid is that of one of a plan's VLANs, or of none where it has none.
func (x *numbers) vid(p model.Plan) int { return 1 + x.below(max(len(p.Vlans), 1)) }

// order is one that can be carried out, with fields that its Kind doesn't use.
func (x *numbers) order(p model.Plan) model.Op {
	o := model.Op{
		Port: x.below(p.Ports), To: x.below(9), Vid: x.vid(p), State: x.below(5), Key: x.station(),
		Members: vlan.Set(turn.Mix(x.seed)), Untagged: vlan.Set(turn.Mix(x.seed + 1)), Now: uint32(x.below(50)), Limit: 3, Shard: 4, Bucket: 5, Id: x.below(9),
	}
	o.Kind = []int{model.Order, model.Drop, model.Flush, model.SetState, model.SetState, model.SetVlan, model.SetVlan}[x.below(7)]
	if o.Kind == model.SetVlan && len(p.Vlans) == 0 {
		o.Kind = model.Drop
	}
	if o.Kind == model.Flush {
		o.Port, o.Vid = o.Port*x.below(2)-x.below(2), x.below(4)-1
	}
	return o
}

// job is something that somebody does, by Steps; Log is what was done by it.
type job interface {
	Step() bool
	Log() []hist.Entry
}

// did is a thing of one step.
type did struct {
	f     *ctl.Fabric
	entry hist.Entry
	what  func() int
}

func (d *did) Step() bool {
	if d.entry.End == 0 {
		d.entry.Begin = d.f.Mem().Time()
		d.entry.Answer = d.what()
		d.entry.Mark = d.f.Mem().Time()
		d.entry.End = d.entry.Mark
	}
	return true
}

func (d *did) Log() []hist.Entry {
	if d.entry.End == 0 {
		return nil
	}
	return []hist.Entry{d.entry}
}

func stand(f *ctl.Fabric, who, p int) job {
	return &did{f, hist.Entry{Who: who, Op: model.Op{Kind: model.GetState, Port: p}}, func() int { return f.Stand(p).State }}
}

func members(f *ctl.Fabric, who, vid int) job {
	return &did{f, hist.Entry{Who: who, Op: model.Op{Kind: model.GetMembers, Vid: vid}}, func() int { return int(f.Members(vid)) }}
}

// entries is an act on the Fdb.
type entries struct {
	f     *ctl.Fabric
	entry hist.Entry
	act   *fdb.Act
}

func (x *entries) Step() bool {
	over := x.act.Step()
	x.entry.Mark = x.act.Mark()
	if over && x.entry.End == 0 {
		x.entry.End, x.entry.Answer = x.f.Mem().Time(), x.act.Answer()
	}
	return over
}

func (x *entries) Log() []hist.Entry { return []hist.Entry{x.entry} }

func lookup(f *ctl.Fabric, who int, k key.Key) job {
	return &entries{f, hist.Entry{Who: who, Begin: f.Mem().Time(), Op: model.Op{Kind: model.Lookup, Key: k}}, f.Fdb().Lookup(who, k)}
}

func learn(f *ctl.Fabric, who int, k key.Key, port int, now uint32) job {
	return &entries{f, hist.Entry{Who: who, Begin: f.Mem().Time(), Op: model.Op{Kind: model.Learn, Key: k, Port: port, Now: now}}, f.Fdb().Learn(who, k, port, now)}
}

func age(f *ctl.Fabric, who, shard, n int, now uint32) job {
	return &entries{f, hist.Entry{Who: who, Begin: f.Mem().Time(), Op: model.Op{Kind: model.Age, Shard: shard, Bucket: n, Now: now, Limit: 5}}, f.Fdb().Age(who, shard, n, now, 5)}
}

// put is a number that is being put into a ring; only one who puts into it.
type put struct {
	f     *ctl.Fabric
	entry hist.Entry
	act   *ring.Act
}

func (x *put) Step() bool {
	over := x.act.Step()
	x.entry.Mark = x.act.Mark()
	if over && x.entry.End == 0 {
		x.entry.End = x.entry.Mark
		x.entry.Answer = number(x.act.Ok())
	}
	return over
}

func (x *put) Log() []hist.Entry { return []hist.Entry{x.entry} }

func number(b bool) int {
	if b {
		return 1
	}
	return 0
}

func puts(f *ctl.Fabric, who, from, to, id int) job {
	return &put{f, hist.Entry{Who: who, Begin: f.Mem().Time(), Op: model.Op{Kind: model.Put, Port: from, To: to, Id: id}}, f.Ring(from, to).Push(uint64(id))}
}

// holder takes a port's lock, reads all that it keeps, twice, takes a number from a ring to the port, and frees the lock.
// Nothing of what it reads may change meanwhile; so a Send by all of it is right at each of these times.
type holder struct {
	t                   *testing.T
	f                   *ctl.Fabric
	who, p, from, vid   int
	stage, began        int
	stand               port.Stand
	members, untagged   vlan.Set
	pop                 *ring.Act
	log                 []hist.Entry
	rest                []uint64 // what waited behind the first number when it had the lock
	looks, waits, fails int
}

func (h *holder) Log() []hist.Entry { return slices.Clone(h.log) }

func (h *holder) did(o model.Op, mark, answer int) {
	h.log = append(h.log, hist.Entry{Who: h.who, Begin: h.began, Mark: mark, End: mark, Op: o, Answer: answer})
	h.began = mark
}

func (h *holder) Step() bool {
	switch h.stage {
	case 0:
		if !h.f.Take(h.p, h.who) {
			h.waits++
			return false
		}
		h.rest = h.f.Ring(h.from, h.p).List()
	case 1, 5:
		h.look()
	case 2, 6:
		s := h.f.Members(h.vid)
		h.keeps(h.stage == 6 && s != h.members, "Members")
		h.members = s
	case 3, 7:
		h.tellSend()
	case 4:
		if !h.took() {
			return false
		}
	case 8:
		h.keeps(!h.f.Free(h.p, h.who), "lock")
		return true
	}
	h.stage++
	return false
}

// keeps: what the lock keeps must not have changed.
func (h *holder) keeps(changed bool, what string) {
	if changed {
		h.t.Fatalf("port %d's %s changed while %d had its lock", h.p, what, h.who)
	}
}

func (h *holder) look() {
	h.began = h.f.Mem().Time()
	s := h.f.Stand(h.p)
	h.keeps(h.stage == 5 && s != h.stand, "Stand")
	h.stand = s
	h.did(model.Op{Kind: model.GetState, Port: h.p}, h.f.Mem().Time(), s.State)
}

// tellSend reads Untagged, which is no Op, and tells what a Send would answer by all that was read.
func (h *holder) tellSend() {
	before := h.f.Mem().Time()
	s := h.f.Untagged(h.vid)
	h.keeps(h.stage == 7 && s != h.untagged, "Untagged")
	h.untagged = s
	how := model.Tagged
	switch {
	case h.stand.State != port.Forwarding:
		how = model.Shut
	case !vlan.Has(h.members, h.p):
		how = model.Stranger
	case vlan.Has(h.untagged, h.p):
		how = model.Bare
	}
	if h.f.Mem().Time() > before {
		h.did(model.Op{Kind: model.Send, To: h.p, Vid: h.vid}, h.f.Mem().Time(), how)
	}
	list := h.f.Ring(h.from, h.p).List()
	h.keeps(len(list) < len(h.rest) || !slices.Equal(list[:len(h.rest)], h.rest), "ring")
}

// took: is its taking over?
func (h *holder) took() bool {
	if h.pop == nil {
		h.pop, h.began = h.f.Ring(h.from, h.p).Pop(), h.f.Mem().Time()
		h.keeps(h.pop == nil, "Pop")
	}
	if !h.pop.Step() {
		return false
	}
	answer := -1
	if h.pop.Ok() {
		answer = int(h.pop.Value())
		h.rest = h.rest[min(1, len(h.rest)):]
	}
	h.did(model.Op{Kind: model.Get, Port: h.from, To: h.p}, h.pop.Mark(), answer)
	return true
}

// world is a fabric, and all that is done on it.
type world struct {
	t    *testing.T
	p    model.Plan
	f    *ctl.Fabric
	logs map[int][]hist.Entry // of what is over, by who
	jobs map[int]job          // that are under way, by who
}

func newWorld(t *testing.T, p model.Plan) *world {
	t.Helper()
	return &world{t: t, p: p, f: fabric(t, p), logs: map[int][]hist.Entry{}, jobs: map[int]job{}}
}

// step: who goes on with the job under way: by one step of the memory at most. Is it over?
func (w *world) step(who int) bool {
	w.t.Helper()
	j, before := w.jobs[who], w.f.Mem().Time()
	over := j.Step()
	if n := w.f.Mem().Time() - before; n > 1 {
		w.t.Fatalf("a Step of %T made %d steps", j, n)
	}
	if a, ok := j.(*ctl.Act); ok {
		if a.Over() != over || !over && a.Answer() != 0 {
			w.t.Fatalf("over %v, %v, answer %d: %+v", over, a.Over(), a.Answer(), a.Log())
		}
	}
	if over {
		w.logs[who] = append(w.logs[who], j.Log()...)
		delete(w.jobs, who)
	}
	return over
}

// do: a job that nobody else meets.
func (w *world) do(who int, j job) job {
	w.t.Helper()
	w.jobs[who] = j
	for range 100000 {
		if w.step(who) {
			return j
		}
	}
	w.t.Fatalf("%T has no end", j)
	return nil
}

// command begins an order.
func (w *world) command(who int, o model.Op) *ctl.Act {
	w.t.Helper()
	before := w.f.Mem().Time()
	a := w.f.Command(who, o)
	if a == nil || a.Over() || a.Answer() != 0 || w.f.Mem().Time() != before {
		w.t.Fatalf("%+v can't be begun", o)
	}
	return a
}

// log is all that was done, and is being done, by all; each one's in order.
func (w *world) log() []hist.Entry {
	var l []hist.Entry
	for _, log := range w.logs {
		l = append(l, log...)
	}
	for _, j := range w.jobs {
		l = append(l, j.Log()...)
	}
	return l
}

// right: all that was done by now is a right history.
func (w *world) right() {
	w.t.Helper()
	l := w.log()
	if i, e := hist.Check(w.p, l); i != -1 || e != api.OK {
		w.t.Fatalf("error %d at %d: %+v", e, i, l[max(i, 0)])
	}
}

// quiet: behind all, what stands is what the model has, and no lock is anybody's.
func (w *world) quiet() {
	w.t.Helper()
	if len(w.jobs) != 0 {
		w.t.Fatal("not all are over:", len(w.jobs))
	}
	w.right()
	m, _ := hist.Replay(w.p, w.log())
	before := w.f.Mem().Time()
	if got, want := w.f.Shape(), m.Shape(); !same(got, want) {
		w.t.Fatalf("%+v, not %+v", got, want)
	}
	if w.f.Mem().Time() != before {
		w.t.Fatal("Shape made steps")
	}
	for l := range w.f.Mem().Locks() {
		if n := w.f.Mem().Holder(l); n != -1 {
			w.t.Fatalf("lock %d is %d's", l, n)
		}
	}
}

// fill puts numbers into rings to and from a few ports; each number is another one.
func (w *world) fill(x *numbers) {
	id := 1000
	for from := range min(w.p.Ports, 5) {
		for to := range min(w.p.Ports, 5) {
			for range x.below(w.p.Ring + 2) {
				id++
				w.do(500, puts(w.f, 500, from, to, id))
			}
		}
	}
}
