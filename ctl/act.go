package ctl

import (
	"patchbay/api"
	"patchbay/bucket"
	"patchbay/diary"
	"patchbay/fdb"
	"patchbay/hist"
	"patchbay/model"
	"patchbay/port"
	"patchbay/ring"
	"patchbay/vlan"
)

// The stages of an order; one that was never begun is over.
const (
	over     = iota
	changing // entries are changed
	taking   // ports' locks are taken
	reading  // a port's stand is read
	setting  // another one stands there
	baring   // a VLAN has other Untagged
	joining  // it has other Members
	draining // rings to a port are emptied
	freeing  // the locks are given back
)

// Act is an order that is being carried out.
type Act struct {
	f     *Fabric
	who   int
	op    model.Op
	stage int
	diary diary.Diary

	entries *fdb.Act // what an Order, Drop or Flush does

	first, locks int // the first port whose lock it takes, and how many it takes
	held         int // how many it has
	stand        port.Stand

	from  int       // the port whose ring is being emptied
	pop   *ring.Act // of that ring; nil: none is under way
	began int       // when that one began

	answer int
}

// Command: an order is carried out by who (nil: it can't be); Bound: steps that are enough.
func (f *Fabric) Command(who int, o model.Op) *Act {
	if f.isNone() || who < 0 {
		return nil
	}
	switch o.Kind {
	case model.Order:
		if !f.isPort(o.Port) {
			return nil
		}
		return f.change(who, o, f.fdb.Order(who, o.Key, o.Port, o.Now))
	case model.Drop:
		return f.change(who, o, f.fdb.Drop(who, o.Key))
	case model.Flush:
		return f.change(who, o, f.fdb.Flush(who, bucket.Filter{Port: o.Port, Vid: o.Vid}))
	case model.SetState:
		if !f.isPort(o.Port) || !port.Right(o.State) {
			return nil
		}
		return f.set(who, o, o.Port, 1)
	case model.SetVlan:
		if vlan.Find(f.plan.Vlans, o.Vid) < 0 {
			return nil
		}
		return f.set(who, o, 0, f.plan.Ports)
	}
	return nil
}

func Bound(p model.Plan) int {
	if model.Check(p) != api.OK {
		return 0
	}
	return fdb.Bound(p.Size, p.Tries) + 64 + p.Ports*(16+8*p.Ring)
}

// change begins an order that changes entries (nil: it can't be).
func (f *Fabric) change(who int, o model.Op, entries *fdb.Act) *Act {
	if entries == nil {
		return nil
	}
	a := f.begin(who, o, changing)
	a.entries = entries
	return a
}

// set begins an order that changes what ports' locks keep: of so many ports, from the first one on.
func (f *Fabric) set(who int, o model.Op, first, locks int) *Act {
	a := f.begin(who, o, taking)
	a.first, a.locks = first, locks
	return a
}

func (f *Fabric) begin(who int, o model.Op, stage int) *Act {
	a := &Act{f: f, who: who, op: o, stage: stage, diary: diary.Of(who)}
	a.diary.Begin(o, f.m.Time())
	return a
}

// Step: it goes on; Over; Answer; Log: what was done.
func (a *Act) Step() bool {
	if a.Over() {
		return true
	}
	switch a.stage {
	case changing:
		a.change()
	case taking:
		a.take()
	case reading:
		a.stand = a.f.Stand(a.op.Port)
		a.stage = setting
	case setting:
		a.setState()
	case baring:
		a.f.m.Store(a.vlanCell()+untagged, uint64(a.op.Untagged&a.members()))
		a.stage = joining
	case joining:
		a.setMembers()
	case draining:
		a.drain()
	case freeing:
		a.free()
	}
	return a.Over()
}

func (a *Act) Over() bool { return a == nil || a.stage == over }

func (a *Act) Answer() int {
	if a == nil || a.stage != over {
		return 0
	}
	return a.answer
}

func (a *Act) Log() []hist.Entry {
	if a == nil {
		return nil
	}
	return a.diary.List()
}

func (a *Act) change() {
	ended := a.entries.Step()
	a.diary.Mark(a.entries.Mark())
	if ended {
		a.answer = a.entries.Answer()
		a.diary.End(a.f.m.Time(), a.answer)
		a.stage = over
	}
}

// take takes the next port's lock: all rising, so that no two orders wait for each other.
func (a *Act) take() {
	if !a.f.Take(a.first+a.held, a.who) {
		return
	}
	a.held++
	if a.held < a.locks {
		return
	}
	a.stage = reading
	if a.op.Kind == model.SetVlan {
		a.stage = baring
	}
}

func (a *Act) setState() {
	is, _ := port.Set(a.stand, a.op.State) // Command refuses a State that isn't Right
	a.f.m.Store(a.op.Port, port.Word(is))
	a.tookEffect(int(is.Epoch))
	a.stage = draining
	if port.Forwards(is.State) {
		a.stage = freeing
	}
}

// setMembers is where a SetVlan takes effect: Members are read without a lock, too, while Untagged, that were changed ahead of them, aren't.
func (a *Act) setMembers() {
	a.f.m.Store(a.vlanCell(), uint64(a.members()))
	a.tookEffect(1)
	a.stage = freeing
}

func (a *Act) members() vlan.Set { return a.op.Members & vlan.All(a.f.plan.Ports) }

func (a *Act) vlanCell() int { return a.f.vlanCell(vlan.Find(a.f.plan.Vlans, a.op.Vid)) }

// tookEffect: the order did so with this step, and that tells what it answers.
func (a *Act) tookEffect(answer int) {
	now := a.f.m.Time()
	a.answer = answer
	a.diary.Mark(now)
	a.diary.End(now, answer)
}

// drain takes a number from a ring to the port, and goes on with the next ring where there is none.
func (a *Act) drain() {
	if a.pop == nil {
		a.pop, a.began = a.f.Ring(a.from, a.op.Port).Pop(), a.f.m.Time()
	}
	// Without a Pop of its own somebody takes from the ring against the rule: what that one leaves is yet to be taken.
	if a.pop == nil || !a.pop.Step() {
		return
	}
	if a.pop.Ok() {
		get := model.Op{Kind: model.Get, Port: a.from, To: a.op.Port}
		a.diary.Did(get, a.began, a.pop.Mark(), int(a.pop.Value()))
	} else {
		a.from++
	}
	a.pop = nil
	if a.from == a.f.plan.Ports {
		a.stage = freeing
	}
}

func (a *Act) free() {
	a.held--
	a.f.Free(a.first+a.held, a.who)
	if a.held == 0 {
		a.stage = over
	}
}
