// Package words tells numbers and sets of ports by words, and reads them again: just so, each by one word alone.
package words

import (
	"strconv"
	"strings"

	"patchbay/vlan"
)

const (
	greatest = 1000000 // a greater number has no word
	none     = "none"  // a set without ports
	comma    = ","
)

// Number: a number's word (an empty text: it has none); ParseNumber: back (false: no number has that word).
func Number(n int) string {
	if n < 0 || n > greatest {
		return ""
	}
	return strconv.Itoa(n)
}

// ParseNumber holds the word against the number's own one: Atoi takes signs and noughts ahead, too.
func ParseNumber(s string) (int, bool) {
	n, e := strconv.Atoi(s)
	if e != nil || Number(n) != s {
		return 0, false
	}
	return n, true
}

// Set: a set's word; ParseSet: back (false: no set has that word).
func Set(s vlan.Set) string {
	if s == 0 {
		return none
	}
	var ports []string
	for _, p := range vlan.List(s) {
		ports = append(ports, strconv.Itoa(p))
	}
	return strings.Join(ports, comma)
}

// ParseSet holds the word against the set's own one: so ports that aren't rising, or that no set has, and parts that are no numbers, are found.
func ParseSet(s string) (vlan.Set, bool) {
	var set vlan.Set
	if s == none {
		return set, true
	}
	for _, part := range strings.Split(s, comma) {
		p, _ := ParseNumber(part)
		set = vlan.With(set, p)
	}
	if Set(set) != s {
		return 0, false
	}
	return set, true
}
