package ingress

import (
	"patchbay/api"
	"patchbay/fdb"
	"patchbay/frame"
	"patchbay/gauge"
	"patchbay/key"
	"patchbay/mac"
	"patchbay/model"
	"patchbay/port"
	"patchbay/ring"
	"patchbay/vlan"
)

// The stages of a frame.
const (
	idle     = iota // there is none
	refusing        // it isn't taken, and only waits for the Step that ends it
	entering        // is the port in its VLAN, and may one more come?
	standing        // does the port take frames?
	learning        // its source is learned
	finding         // its destination is looked for
	putting         // it is put for one port behind the other
)

// passage is a frame that is being done.
type passage struct {
	Done
	stage    int
	src, dst key.Key // the stations, in its VLAN
	now      uint32
	members  vlan.Set // of its VLAN
	state    int      // the port's
	act      *fdb.Act // Learn or Lookup
	left     []int    // ports for which it is yet to be put
	push     *ring.Act
}

// read tells of a frame's bytes all that needs no step.
func (x *Ingress) read(b []byte, now uint32) passage {
	vid, why := vlan.Class(b, x.plan.Rules[x.p])
	if why == api.Taken && vlan.Find(x.plan.Vlans, vid) < 0 {
		why = api.Vlan
	}
	f, _ := frame.Parse(b) // of bytes that Class refuses nothing is looked at
	w := passage{Done: Done{Why: why, Vid: vid, Learned: notLearned, Found: notLooked}, stage: entering, now: now}
	w.src, w.dst = key.Key{Vid: vid, Mac: f.Src}, key.Key{Vid: vid, Mac: f.Dst}
	if why != api.Taken {
		w.stage = refusing
	}
	return w
}

func (x *Ingress) time() int { return x.f.Mem().Time() }

// end: the frame is over.
func (x *Ingress) end(why api.Why) {
	x.doing.Why = why
	x.done = append(x.done, x.doing.Done)
	x.doing = passage{}
}

func (x *Ingress) enter() {
	w, began := &x.doing, x.time()
	w.members = x.f.Members(w.Vid)
	x.diary.Did(model.Op{Kind: model.GetMembers, Vid: w.Vid}, began, x.time(), int(w.members))
	switch {
	case !vlan.Has(w.members, x.p):
		x.end(api.Member)
	case !x.mayCome():
		x.end(api.Storm)
	default:
		w.stage = standing
	}
}

// mayCome: does the gauge let the frame in? It isn't asked of one for a single station.
func (x *Ingress) mayCome() bool {
	if mac.Kind(x.doing.dst.Mac) == mac.Unicast {
		return true
	}
	g, may := gauge.Take(x.gauge, x.doing.now)
	x.gauge = g
	return may
}

func (x *Ingress) stand() {
	w, began := &x.doing, x.time()
	w.state = x.f.Stand(x.p).State
	x.diary.Did(model.Op{Kind: model.GetState, Port: x.p}, began, x.time(), w.state)
	switch {
	case !port.Learns(w.state):
		x.end(api.State)
	case key.Right(w.src):
		w.act = x.f.Fdb().Learn(x.who, w.src, x.p, w.now)
		x.diary.Begin(model.Op{Kind: model.Learn, Key: w.src, Port: x.p, Now: w.now}, x.time())
		w.stage = learning
	default:
		x.send()
	}
}

func (x *Ingress) learn() {
	if x.isActOver() {
		x.doing.Learned = x.doing.act.Answer()
		x.send()
	}
}

// isActOver makes a step of the Learn or Lookup, and tells of it.
func (x *Ingress) isActOver() bool {
	act := x.doing.act
	over := act.Step()
	x.diary.Mark(act.Mark())
	if over {
		x.diary.End(x.time(), act.Answer())
	}
	return over
}

// send: it is on its way to other ports, if its own one forwards.
func (x *Ingress) send() {
	w := &x.doing
	switch {
	case !port.Forwards(w.state):
		x.end(api.Taken)
	case key.Right(w.dst):
		w.act = x.f.Fdb().Lookup(x.who, w.dst)
		x.diary.Begin(model.Op{Kind: model.Lookup, Key: w.dst}, x.time())
		w.stage = finding
	default:
		x.sendTo(w.members)
	}
}

func (x *Ingress) find() {
	if !x.isActOver() {
		return
	}
	w := &x.doing
	w.Found = w.act.Answer()
	if w.Found < 0 {
		x.sendTo(w.members)
		return
	}
	x.sendTo(vlan.With(0, w.Found))
}

// sendTo puts it for some ports, but never for its own one.
func (x *Ingress) sendTo(ports vlan.Set) {
	x.doing.left = vlan.List(vlan.Without(ports, x.p) & vlan.All(x.plan.Ports))
	x.doing.stage = putting
	x.endIfPut()
}

func (x *Ingress) endIfPut() {
	if len(x.doing.left) == 0 {
		x.end(api.Taken)
	}
}

func (x *Ingress) put() {
	w := &x.doing
	to, ticket := w.left[0], Ticket(w.Id, w.Vid)
	if w.push == nil {
		w.push = x.f.Ring(x.p, to).Push(uint64(ticket))
		// Somebody else puts into the ring against the rule: it waits for that one.
		if w.push == nil {
			return
		}
		x.diary.Begin(model.Op{Kind: model.Put, Port: x.p, To: to, Id: ticket}, x.time())
	}
	if !w.push.Step() {
		return
	}
	x.putWas(to, w.push.Ok())
	w.push = nil
	w.left = w.left[1:]
	x.endIfPut()
}

// putWas tells of a Put that is over: was there room?
func (x *Ingress) putWas(to int, ok bool) {
	w, answer := &x.doing, 0
	if ok {
		w.To = append(w.To, to)
		answer = 1
	} else {
		w.Full = append(w.Full, to)
	}
	x.diary.Mark(w.push.Mark())
	x.diary.End(x.time(), answer)
}
