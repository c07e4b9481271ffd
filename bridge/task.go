package bridge

import (
	"slices"

	"patchbay/ager"
	"patchbay/ctl"
	"patchbay/diary"
	"patchbay/egress"
	"patchbay/hist"
	"patchbay/ingress"
	"patchbay/model"
)

// task is one who works on the switch's memory when it is picked: has it anything to do? A step of it, if it has; what it did.
type task interface {
	hasWork() bool
	step()
	Log() []hist.Entry
}

// entrance does the frames that come in at a port, one behind the other.
type entrance struct {
	*ingress.Ingress
	s       *Switch
	waiting []int // numbers of those that haven't begun
}

func (x *entrance) hasWork() bool { return x.left() > 0 }

// left is how many frames aren't over.
func (x *entrance) left() int {
	if x.Idle() {
		return len(x.waiting)
	}
	return len(x.waiting) + 1
}

func (x *entrance) step() {
	if x.Idle() {
		id := x.waiting[0]
		x.waiting = x.waiting[1:]
		x.Begin(id, x.s.came[id].Bytes, x.s.came[id].Tick)
	}
	x.Step()
}

// exit sends what waits for a port.
type exit struct{ *egress.Egress }

func (x *exit) hasWork() bool { return !x.Idle() || x.Waits() }

func (x *exit) step() { x.Step() }

// sweeper sweeps old entries out. What the Ager tells of one sweep is gone with the next one: so each Age is told in a diary.
type sweeper struct {
	*ager.Ager
	f     *ctl.Fabric
	age   model.Op // of the last sweep, but for its place
	diary diary.Diary
}

// newSweeper is one who takes locks as who.
func newSweeper(f *ctl.Fabric, who int) *sweeper {
	a, _ := ager.New(f.Fdb(), f.Plan().Size, who)
	return &sweeper{Ager: a, f: f, diary: diary.Of(who)}
}

func (x *sweeper) sweep(now, limit uint32) bool {
	if !x.Begin(now, limit) {
		return false
	}
	x.age = model.Op{Kind: model.Age, Now: now, Limit: limit}
	return true
}

func (x *sweeper) hasWork() bool { return !x.Idle() }

func (x *sweeper) step() {
	_, had := x.Now()
	began := x.f.Mem().Time()
	x.Step()
	is, has := x.Now()
	if !has {
		done := x.Done()
		is = done[len(done)-1]
	}
	if !had {
		o := x.age
		o.Shard, o.Bucket = is.Shard, is.Bucket
		x.diary.Begin(o, began)
	}
	x.diary.Mark(is.Mark)
	if !has {
		x.diary.End(x.f.Mem().Time(), is.Gone)
	}
}

func (x *sweeper) Log() []hist.Entry { return x.diary.List() }

// control carries out orders, one behind the other.
type control struct {
	f       *ctl.Fabric
	who     int
	waiting []model.Op
	act     *ctl.Act     // the order that is under way; nil: none is
	told    []hist.Entry // of those that are over
}

func (x *control) order(o model.Op) bool {
	if x.f.Command(x.who, o) == nil {
		return false
	}
	x.waiting = append(x.waiting, o)
	return true
}

func (x *control) hasWork() bool { return x.left() > 0 }

// left is how many orders aren't over.
func (x *control) left() int {
	if x.act == nil {
		return len(x.waiting)
	}
	return len(x.waiting) + 1
}

// step begins an order no sooner than it is picked: it is told from then on.
func (x *control) step() {
	if x.act == nil {
		x.act = x.f.Command(x.who, x.waiting[0])
		x.waiting = x.waiting[1:]
	}
	if x.act.Step() {
		x.told = append(x.told, x.act.Log()...)
		x.act = nil
	}
}

func (x *control) Log() []hist.Entry { return slices.Concat(x.told, x.act.Log()) }
