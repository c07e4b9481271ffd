// Package mac is layer 1: addresses of stations: see shared/doc/01-mac.md.
package mac

import "patchbay/api"

// Mac is an address: 48 bits.
type Mac uint64

// Kinds of addresses.
const (
	Unicast   = 0
	Group     = 1
	Broadcast = 2
	Reserved  = 3
)

const (
	size          = 6                   // bytes of an address
	allBits       = Mac(1<<48 - 1)      // those that count
	groupBit      = Mac(1 << 40)        // the lowest bit of the first byte
	localBit      = Mac(1 << 41)        // the second lowest one
	firstReserved = Mac(0x0180C2000000) // the least of the Reserved addresses
	reservedBits  = Mac(15)             // by these alone they differ
	digits        = "0123456789abcdef"
	textSize      = 3*size - 1
	separator     = '-'
)

// Of: six bytes' address; Bytes: back; Right: has it no more than 48 bits? Kind; Local: was it given here?
func Of(b []byte) (Mac, api.Errno) {
	if len(b) < size {
		return 0, api.ErrShort
	}
	var m Mac
	for _, x := range b[:size] {
		m = m<<8 | Mac(x)
	}
	return m, api.OK
}

func Bytes(m Mac) []byte {
	b := make([]byte, size)
	for i := size - 1; i >= 0; i-- {
		b[i] = byte(m)
		m >>= 8
	}
	return b
}

func Right(m Mac) bool { return m <= allBits }

func Kind(m Mac) int {
	m &= allBits
	switch {
	case m == allBits:
		return Broadcast
	case m&^reservedBits == firstReserved:
		return Reserved
	case m&groupBit != 0:
		return Group
	}
	return Unicast
}

func Local(m Mac) bool { return m&localBit != 0 }

// Text: in words; Parse: back.
func Text(m Mac) string {
	t := make([]byte, 0, textSize)
	for i, x := range Bytes(m) {
		if i > 0 {
			t = append(t, separator)
		}
		t = append(t, digits[x>>4], digits[x&15])
	}
	return string(t)
}

func Parse(s string) (Mac, api.Errno) {
	if len(s) != textSize {
		return 0, api.ErrForm
	}
	var m Mac
	for i := 0; i < textSize; i++ {
		if i%3 == 2 {
			if s[i] != separator {
				return 0, api.ErrForm
			}
			continue
		}
		d, ok := digit(s[i])
		if !ok {
			return 0, api.ErrForm
		}
		m = m<<4 | d
	}
	return m, api.OK
}

// digit knows no capitals: a text has one form only, so that Text undoes Parse.
func digit(c byte) (Mac, bool) {
	switch {
	case '0' <= c && c <= '9':
		return Mac(c - '0'), true
	case 'a' <= c && c <= 'f':
		return Mac(c-'a') + 10, true
	}
	return 0, false
}
