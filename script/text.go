package script

import (
	"strconv"
	"strings"

	"patchbay/api"
	"patchbay/key"
	"patchbay/mac"
	"patchbay/model"
	"patchbay/port"
	"patchbay/vlan"
	"patchbay/words"
)

const (
	lineEnd  = "\n"
	blank    = " "
	maxWords = 4 // of a line
	noBytes  = "-"
	digits   = "0123456789abcdef"
	anyOne   = -1 // a Flush's Port and Vid, if it is of all
	anyWord  = "any"
	onWord   = "on"
	offWord  = "off"
)

// Print: as text; Parse: back (the first line that is wrong).
func Print(l []Event) string {
	var b strings.Builder
	for _, e := range l {
		line := lineOf(e)
		if line == "" {
			return ""
		}
		b.WriteString(line)
		b.WriteString(lineEnd)
	}
	return b.String()
}

// lineOf is an Event's line; an empty text: it has none.
func lineOf(e Event) string {
	switch e.Kind {
	case Pick:
		return join("pick", words.Number(e.N))
	case Frame:
		return join("frame", words.Number(e.Port), hex(e.Bytes))
	case Tick:
		return join("tick", words.Number(e.N))
	case Sweep:
		return "sweep"
	case Order:
		return lineOfOrder(e.Op)
	case Change:
		return join("change", changeWord(e.N))
	case Round:
		return join("round", words.Number(e.N))
	}
	return ""
}

func lineOfOrder(o model.Op) string {
	switch o.Kind {
	case model.SetState:
		return join("state", words.Number(o.Port), port.Name(o.State))
	case model.SetVlan:
		return join("vlan", words.Number(o.Vid), words.Set(o.Members), words.Set(o.Untagged))
	case model.Flush:
		return join("flush", filterWord(o.Port), filterWord(o.Vid))
	case model.Order:
		return join("station", words.Number(o.Key.Vid), address(o.Key.Mac), words.Number(o.Port))
	case model.Drop:
		return join("forget", words.Number(o.Key.Vid), address(o.Key.Mac))
	}
	return ""
}

// join is a line of words; there is none, if one of them is empty: what it should tell has no word.
func join(list ...string) string {
	for _, word := range list {
		if word == "" {
			return ""
		}
	}
	return strings.Join(list, blank)
}

func changeWord(n int) string {
	if n == on {
		return onWord
	}
	return offWord
}

func filterWord(n int) string {
	if n == anyOne {
		return anyWord
	}
	return words.Number(n)
}

func address(m mac.Mac) string {
	if !mac.Right(m) {
		return ""
	}
	return mac.Text(m)
}

func hex(b []byte) string {
	if len(b) == 0 {
		return noBytes
	}
	t := make([]byte, 0, 2*len(b))
	for _, x := range b {
		t = append(t, digits[x>>4], digits[x&15])
	}
	return string(t)
}

func Parse(s string) ([]Event, int, api.Errno) {
	var l []Event
	for len(s) > 0 {
		line, rest, ended := strings.Cut(s, lineEnd)
		e := eventOf(line)
		// Only the line that an Event has itself tells it just so: what eventOf makes of another one doesn't count.
		if !ended || line == "" || lineOf(e) != line {
			return nil, len(l), api.ErrWord
		}
		l = append(l, e)
		s = rest
	}
	return l, -1, api.OK
}

// eventOf is the Event of a line, if it is an Event's just so; of another line any one.
func eventOf(line string) Event {
	var w [maxWords]string
	copy(w[:], strings.Split(line, blank))
	switch w[0] {
	case "pick":
		return Event{Kind: Pick, N: number(w[1])}
	case "frame":
		return Event{Kind: Frame, Port: number(w[1]), Bytes: unhex(w[2])}
	case "tick":
		return Event{Kind: Tick, N: number(w[1])}
	case "sweep":
		return Event{Kind: Sweep}
	case "change":
		return Event{Kind: Change, N: change(w[1])}
	case "round":
		return Event{Kind: Round, N: number(w[1])}
	}
	return Event{Kind: Order, Op: orderOf(w)}
}

// orderOf is the order that a line's words tell, if they tell one.
func orderOf(w [maxWords]string) model.Op {
	switch w[0] {
	case "state":
		state, _ := port.Parse(w[2])
		return model.Op{Kind: model.SetState, Port: number(w[1]), State: state}
	case "vlan":
		return model.Op{Kind: model.SetVlan, Vid: number(w[1]), Members: set(w[2]), Untagged: set(w[3])}
	case "flush":
		return model.Op{Kind: model.Flush, Port: filter(w[1]), Vid: filter(w[2])}
	case "station":
		return model.Op{Kind: model.Order, Key: keyOf(w[1], w[2]), Port: number(w[3])}
	case "forget":
		return model.Op{Kind: model.Drop, Key: keyOf(w[1], w[2])}
	}
	return model.Op{}
}

// number, set, change, filter, keyOf, unhex: what a word tells; of a word that tells none any one.
func number(word string) int {
	n, _ := words.ParseNumber(word)
	return n
}

func set(word string) vlan.Set {
	s, _ := words.ParseSet(word)
	return s
}

func change(word string) int {
	if word == onWord {
		return on
	}
	return 0
}

func filter(word string) int {
	if word == anyWord {
		return anyOne
	}
	return number(word)
}

func keyOf(vid, station string) key.Key {
	m, _ := mac.Parse(station)
	return key.Key{Vid: number(vid), Mac: m}
}

func unhex(word string) []byte {
	b := make([]byte, len(word)/2)
	for i := range b {
		x, _ := strconv.ParseUint(word[2*i:2*i+2], 16, 8)
		b[i] = byte(x)
	}
	return b
}
