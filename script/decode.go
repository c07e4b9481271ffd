package script

import (
	"bytes"

	"patchbay/api"
	"patchbay/frame"
	"patchbay/key"
	"patchbay/mac"
	"patchbay/model"
	"patchbay/port"
	"patchbay/vlan"
)

const (
	stations  = 8                       // of which bytes speak
	targets   = stations + 2            // to which frames go: the stations, all, and some
	station0  = mac.Mac(0x020000000001) // the others' are so many more
	broadcast = mac.Mac(0xFFFFFFFFFFFF)
	group     = mac.Mac(0x01005E000001)
	frameType = 0x0800              // of all frames
	loadLen   = 46                  // bytes of a frame's Load
	states    = port.Forwarding + 1 // so many there are
)

// Decode: what any bytes say, for a plan.
func Decode(p model.Plan, b []byte) []Event {
	if model.Check(p) != api.OK {
		return nil
	}
	var l []Event
	d := decoder{plan: p, rest: b}
	for len(d.rest) > 0 {
		l = append(l, d.event())
	}
	return l
}

// decoder reads bytes that tell what happens to a switch of a plan.
type decoder struct {
	plan model.Plan
	rest []byte // those that weren't read yet
}

// take reads as many bytes as a list has; where there are none any more it is as if there were noughts.
func (d *decoder) take(list []int) {
	for i := range list {
		if len(d.rest) == 0 {
			return
		}
		list[i] = int(d.rest[0])
		d.rest = d.rest[1:]
	}
}

func (d *decoder) event() Event {
	c := d.rest[0]
	d.rest = d.rest[1:]
	switch {
	case c < 160:
		return Event{Kind: Pick, N: int(c) % (2*d.plan.Ports + 2)}
	case c < 200:
		return d.frame(c)
	case c < 220:
		return Event{Kind: Tick, N: int(c) - 199}
	case c < 224:
		return Event{Kind: Sweep}
	case c < 230:
		return Event{Kind: Change, N: int(c) % 2}
	case c < 241:
		return Event{Kind: Order, Op: d.setState()}
	case c >= 247 && c < 251:
		return Event{Kind: Order, Op: d.flush()}
	case len(d.plan.Vlans) == 0: // all that follow are of a VLAN
		return Event{Kind: Sweep}
	case c < 247:
		return Event{Kind: Order, Op: d.setVlan()}
	case c < 254:
		return Event{Kind: Order, Op: d.order()}
	}
	return Event{Kind: Order, Op: d.drop()}
}

func (d *decoder) frame(c byte) Event {
	var b [4]int
	d.take(b[:])
	f := frame.Frame{Dst: target(b[1]), Src: station(b[2]), Type: frameType, Load: bytes.Repeat([]byte{c}, loadLen)}
	if place := b[3] % (len(d.plan.Vlans) + 1); place > 0 {
		f.Tagged, f.Tci = true, uint16(d.plan.Vlans[place-1].Vid)
	}
	whole, _ := frame.Write(f) // such a frame can be written
	return Event{Kind: Frame, Port: b[0] % d.plan.Ports, Bytes: whole}
}

func station(b int) mac.Mac { return station0 + mac.Mac(b%stations) }

// target is to whom a frame goes.
func target(b int) mac.Mac {
	switch b % targets {
	case stations:
		return broadcast
	case stations + 1:
		return group
	}
	return station(b % targets)
}

// vid is that of the VLAN to which a byte points, of a plan that has some.
func (d *decoder) vid(b int) int { return d.plan.Vlans[b%len(d.plan.Vlans)].Vid }

func (d *decoder) setState() model.Op {
	var b [2]int
	d.take(b[:])
	return model.Op{Kind: model.SetState, Port: b[0] % d.plan.Ports, State: b[1] % states}
}

func (d *decoder) setVlan() model.Op {
	var b [3]int
	d.take(b[:])
	return model.Op{Kind: model.SetVlan, Vid: d.vid(b[0]), Members: vlan.Set(b[1]), Untagged: vlan.Set(b[2])}
}

func (d *decoder) flush() model.Op {
	var b [2]int
	d.take(b[:])
	o := model.Op{Kind: model.Flush, Port: b[0]%(d.plan.Ports+1) - 1, Vid: -1}
	if place := b[1] % (len(d.plan.Vlans) + 1); place > 0 {
		o.Vid = d.plan.Vlans[place-1].Vid
	}
	return o
}

func (d *decoder) order() model.Op {
	var b [3]int
	d.take(b[:])
	return model.Op{Kind: model.Order, Key: key.Key{Vid: d.vid(b[1]), Mac: station(b[0])}, Port: b[2] % d.plan.Ports}
}

func (d *decoder) drop() model.Op {
	var b [2]int
	d.take(b[:])
	return model.Op{Kind: model.Drop, Key: key.Key{Vid: d.vid(b[1]), Mac: station(b[0])}}
}
