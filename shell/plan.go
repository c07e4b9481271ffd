package shell

import (
	"math"
	"slices"
	"strings"

	"patchbay/api"
	"patchbay/book"
	"patchbay/model"
	"patchbay/vlan"
	"patchbay/words"
)

const (
	levelAt = 8  // ahead of it a plan's words are numbers
	vlansAt = 10 // from there on each is a VLAN's
	noVlan  = 1  // the VLAN of frames that tell none, where a plan has no VLAN
)

// rate is how many frames may come: a gauge's Level and Most.
type rate struct{ level, most float64 }

// planOf is what a plan's words tell; false: they aren't a plan's.
func planOf(w []string) (model.Plan, rate, bool) {
	if len(w) < vlansAt {
		return model.Plan{}, rate{}, false
	}
	n, areNumbers := numbers(w[:levelAt])
	r, isRate := rateOf(w[levelAt], w[levelAt+1])
	l, areVlans := vlansOf(w[vlansAt:])
	if !areNumbers || !isRate || !areVlans {
		return model.Plan{}, rate{}, false
	}
	p := model.Plan{
		Ports: n[0], Rules: rules(n[0], l), Vlans: l,
		Size:  book.Size{Shards: n[1], Buckets: n[2], Slots: n[3]},
		Tries: n[4], Ring: n[5], Normal: uint32(n[6]), Short: uint32(n[7]),
	}
	return p, r, true
}

// numbers are words' numbers; false: one is none's.
func numbers(w []string) ([]int, bool) {
	var l []int
	for _, word := range w {
		n, is := words.ParseNumber(word)
		if !is {
			return nil, false
		}
		l = append(l, n)
	}
	return l, true
}

// rules are all ports' alike; of more ports than may be not one for each: there is no switch of them, whatever their rules are.
func rules(ports int, l []vlan.Vlan) []vlan.Rule {
	r := vlan.Rule{Pvid: noVlan, Accept: vlan.Any}
	if len(l) > 0 {
		r.Pvid = l[0].Vid
	}
	return slices.Repeat([]vlan.Rule{r}, min(ports, api.MaxPorts))
}

func rateOf(level, most string) (rate, bool) {
	l, isLevel := float(level)
	m, isMost := float(most)
	if !isLevel || !isMost {
		return rate{}, false
	}
	return rate{level: l, most: m}, true
}

func float(word string) (float64, bool) {
	switch word {
	case "-0":
		return math.Copysign(0, -1), true
	case "inf":
		return math.Inf(1), true
	case "-inf":
		return math.Inf(-1), true
	case "nan":
		return math.NaN(), true
	}
	n, is := words.ParseNumber(word)
	return float64(n), is
}

func vlansOf(w []string) ([]vlan.Vlan, bool) {
	var l []vlan.Vlan
	for _, word := range w {
		v, is := vlanOf(word)
		if !is {
			return nil, false
		}
		l = append(l, v)
	}
	return l, true
}

func vlanOf(word string) (vlan.Vlan, bool) {
	parts := strings.Split(word, ":")
	if len(parts) != 3 {
		return vlan.Vlan{}, false
	}
	vid, isVid := words.ParseNumber(parts[0])
	members, areMembers := words.ParseSet(parts[1])
	untagged, areUntagged := words.ParseSet(parts[2])
	if !isVid || !areMembers || !areUntagged {
		return vlan.Vlan{}, false
	}
	return vlan.Vlan{Vid: vid, Members: members, Untagged: untagged}, true
}
