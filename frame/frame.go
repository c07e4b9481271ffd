// Package frame is layer 2: frames, with a tag or without: see shared/doc/02-frame.md.
package frame

import (
	"patchbay/api"
	"patchbay/mac"
)

// Frame is what a frame's bytes tell.
type Frame struct {
	Dst, Src mac.Mac
	Tagged   bool
	Tci      uint16
	Type     uint16
	Load     []byte
}

const (
	macLen   = 6          // bytes of an address
	typeLen  = 2          // bytes of a Type
	addrLen  = 2 * macLen // bytes ahead of a tag
	headLen  = addrLen + typeLen
	maxLoad  = api.MaxFrame - headLen
	tagType  = 0x8100 // in a Type's place: a tag is there
	minType  = 0x0600 // a Type from here on is no length
	vidMask  = 0x0FFF
	keepMask = 0xF000 // what of a Tci is no Vid
	prioBits = 13     // a Tci's priority stands above these
)

// Parse: what bytes tell; Write: back; Vid, Prio: what a tag tells; Out: a frame's bytes, with another tag, or without.
func Parse(b []byte) (Frame, api.Errno) {
	tagged, e := look(b)
	if e != api.OK {
		return Frame{}, e
	}
	f := Frame{Tagged: tagged}
	f.Dst, _ = mac.Of(b)
	f.Src, _ = mac.Of(b[macLen:])
	rest := b[addrLen:]
	if tagged {
		f.Tci = number(rest[typeLen:])
		rest = rest[api.TagLen:]
	}
	f.Type = number(rest)
	f.Load = append([]byte(nil), rest[typeLen:]...)
	return f, api.OK
}

func Write(f Frame) ([]byte, api.Errno) {
	if e := fit(f); e != api.OK {
		return nil, e
	}
	b := make([]byte, 0, headLen+api.TagLen+max(len(f.Load), api.MinFrame))
	b = append(b, mac.Bytes(f.Dst)...)
	b = append(b, mac.Bytes(f.Src)...)
	if f.Tagged {
		b = appendTag(b, f.Tci)
	}
	b = appendNumber(b, f.Type)
	b = append(b, f.Load...)
	return pad(b), api.OK
}

func Vid(f Frame) int { return int(f.Tci & vidMask) }

func Prio(f Frame) int {
	if !f.Tagged {
		return 0
	}
	return int(f.Tci >> prioBits)
}

// Out works on the bytes as they are, not by Write: without its tag a frame may have 81 00 as Type, which Write refuses.
func Out(b []byte, tagged bool, vid int) ([]byte, api.Errno) {
	had, e := look(b)
	if e != api.OK {
		return nil, e
	}
	if tagged && (vid < 1 || vid > api.MaxVid) {
		return nil, api.ErrVlan
	}
	var tci uint16
	rest := b[addrLen:]
	if had {
		tci = number(rest[typeLen:])
		rest = rest[api.TagLen:]
	}
	c := make([]byte, 0, addrLen+api.TagLen+max(len(rest), api.MinFrame))
	c = append(c, b[:addrLen]...)
	if tagged {
		c = appendTag(c, tci&keepMask|uint16(vid))
	}
	c = append(c, rest...)
	return pad(c), api.OK
}

// look tells whether bytes are a Tagged frame's, or why they are none's.
func look(b []byte) (bool, api.Errno) {
	if len(b) < api.MinFrame {
		return false, api.ErrShort
	}
	most, head := api.MaxFrame, headLen
	tagged := number(b[addrLen:]) == tagType
	if tagged {
		most += api.TagLen
		head += api.TagLen
	}
	if len(b) > most {
		return false, api.ErrLong
	}
	if !meets(number(b[head-typeLen:]), len(b)-head) {
		return false, api.ErrForm
	}
	return tagged, api.OK
}

// fit tells why a frame can't be written.
func fit(f Frame) api.Errno {
	switch {
	case !mac.Right(f.Dst) || !mac.Right(f.Src):
		return api.ErrArg
	case !f.Tagged && (f.Tci != 0 || f.Type == tagType):
		return api.ErrArg
	case len(f.Load) > maxLoad:
		return api.ErrLong
	case !meets(f.Type, len(f.Load)):
		return api.ErrForm
	}
	return api.OK
}

// meets: a small Type is a length, of a Load that may have noughts behind it, but none missing.
func meets(kind uint16, load int) bool {
	if kind <= maxLoad {
		return int(kind) <= load
	}
	return kind >= minType
}

// number is that of the first two bytes.
func number(b []byte) uint16 { return uint16(b[0])<<8 | uint16(b[1]) }

func appendNumber(b []byte, n uint16) []byte { return append(b, byte(n>>8), byte(n)) }

func appendTag(b []byte, tci uint16) []byte {
	return appendNumber(appendNumber(b, tagType), tci)
}

func pad(b []byte) []byte {
	for len(b) < api.MinFrame {
		b = append(b, 0)
	}
	return b
}
