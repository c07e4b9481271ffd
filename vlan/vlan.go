// Package vlan is layer 3: which VLAN a frame is of, and whose ports are in it: see shared/doc/03-vlan.md.
package vlan

import (
	"math/bits"

	"patchbay/api"
	"patchbay/frame"
	"patchbay/mac"
)

// Set is ports: bit p is port p's.
type Set uint64

// Which frames a port takes.
const (
	Any          = 0
	OnlyTagged   = 1
	OnlyUntagged = 2
)

// noVid is a number that a tag can tell, and that no VLAN may have.
const noVid = api.MaxVid + 1

// Rule is a port's: the VLAN of frames that tell none, which frames it takes.
type Rule struct{ Pvid, Accept int }

// Vlan is a VLAN: its number, the ports that are in it, those that get its frames without a tag.
type Vlan struct {
	Vid               int
	Members, Untagged Set
}

// Has, With, Without, List, Size: of sets; All: the first ports.
func Has(s Set, p int) bool { return s&bit(p) != 0 }

func With(s Set, p int) Set { return s | bit(p) }

func Without(s Set, p int) Set { return s &^ bit(p) }

func List(s Set) []int {
	l := make([]int, 0, Size(s))
	for p := range api.MaxPorts {
		if Has(s, p) {
			l = append(l, p)
		}
	}
	return l
}

func Size(s Set) int { return bits.OnesCount64(uint64(s)) }

func All(ports int) Set {
	if ports >= api.MaxPorts {
		return ^Set(0)
	}
	return Set(1)<<max(ports, 0) - 1
}

// bit is the set of p alone; none of a p that no set can have.
func bit(p int) Set {
	if p < 0 || p >= api.MaxPorts {
		return 0
	}
	return Set(1) << p
}

// Check: may VLANs be, of so many ports? Find: the place of one; -1: none; Right: may a rule be?
func Check(l []Vlan, ports int) api.Errno {
	if ports < api.MinPorts || ports > api.MaxPorts {
		return api.ErrPort
	}
	if len(l) > api.MaxVlans {
		return api.ErrFull
	}
	ahead := 0
	for _, v := range l {
		switch {
		case !rightVid(v.Vid) || v.Vid <= ahead:
			return api.ErrVlan
		case v.Members&^All(ports) != 0:
			return api.ErrPort
		case v.Untagged&^v.Members != 0:
			return api.ErrArg
		}
		ahead = v.Vid
	}
	return api.OK
}

func Find(l []Vlan, vid int) int {
	for i, v := range l {
		if v.Vid == vid {
			return i
		}
	}
	return -1
}

func Right(r Rule) bool {
	return rightVid(r.Pvid) && r.Accept >= Any && r.Accept <= OnlyUntagged
}

func rightVid(vid int) bool { return vid >= 1 && vid <= api.MaxVid }

// Class: which VLAN a frame's bytes are of, by a port's rule; Enter: may they come in at a port? Leave: at which ports they may go out.
func Class(b []byte, r Rule) (int, api.Why) {
	f, e := frame.Parse(b)
	if e != api.OK {
		return 0, unread(e)
	}
	told := frame.Vid(f) // 0 of a frame without a tag: Parse leaves its Tci 0
	switch {
	case mac.Kind(f.Src) != mac.Unicast:
		return 0, api.Source
	case mac.Kind(f.Dst) == mac.Reserved:
		return 0, api.Reserved
	case r.Accept == OnlyTagged && told == 0, r.Accept == OnlyUntagged && told != 0:
		return 0, api.Tag
	case told == noVid:
		return 0, api.Vlan
	case told == 0:
		return r.Pvid, api.Taken
	}
	return told, api.Taken
}

// unread is the reason that stands for an error of frame.Parse.
func unread(e api.Errno) api.Why {
	switch e {
	case api.ErrShort:
		return api.Short
	case api.ErrLong:
		return api.Long
	}
	return api.Form
}

func Enter(l []Vlan, vid, port int) api.Why {
	i := Find(l, vid)
	switch {
	case i < 0:
		return api.Vlan
	case !Has(l[i].Members, port):
		return api.Member
	}
	return api.Taken
}

func Leave(l []Vlan, vid, port int) Set {
	i := Find(l, vid)
	if i < 0 {
		return 0
	}
	return Without(l[i].Members, port)
}
