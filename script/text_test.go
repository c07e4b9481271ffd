package script_test

import (
	"math"
	"regexp"
	"slices"
	"strconv"
	"strings"
	"testing"

	"patchbay/api"
	"patchbay/key"
	"patchbay/mac"
	"patchbay/model"
	"patchbay/port"
	"patchbay/script"
	"patchbay/vlan"
)

const (
	most  = 1000000
	wrong = most + 1
)

func ordered(o model.Op) script.Event { return script.Event{Kind: script.Order, Op: o} }

// Each line, and its Event.
func lines() []struct {
	line  string
	event script.Event
} {
	var all []string
	for p := range 64 {
		all = append(all, strconv.Itoa(p))
	}
	return []struct {
		line  string
		event script.Event
	}{
		{"pick 0", script.Event{Kind: script.Pick}},
		{"pick 1000000", script.Event{Kind: script.Pick, N: most}},
		{"frame 0 -", script.Event{Kind: script.Frame}},
		{"frame 1000000 00", script.Event{Kind: script.Frame, Port: most, Bytes: []byte{0}}},
		{"frame 12 09abcdef7f80ff", script.Event{Kind: script.Frame, Port: 12, Bytes: []byte{0x09, 0xab, 0xcd, 0xef, 0x7f, 0x80, 0xff}}},
		{"tick 0", script.Event{Kind: script.Tick}},
		{"tick 1000000", script.Event{Kind: script.Tick, N: most}},
		{"sweep", script.Event{Kind: script.Sweep}},
		{"change on", script.Event{Kind: script.Change, N: 1}},
		{"change off", script.Event{Kind: script.Change}},
		{"round 0", script.Event{Kind: script.Round}},
		{"round 1000000", script.Event{Kind: script.Round, N: most}},
		{"state 0 disabled", ordered(model.Op{Kind: model.SetState})},
		{"state 1 blocking", ordered(model.Op{Kind: model.SetState, Port: 1, State: port.Blocking})},
		{"state 2 listening", ordered(model.Op{Kind: model.SetState, Port: 2, State: port.Listening})},
		{"state 63 learning", ordered(model.Op{Kind: model.SetState, Port: 63, State: port.Learning})},
		{"state 1000000 forwarding", ordered(model.Op{Kind: model.SetState, Port: most, State: port.Forwarding})},
		{"vlan 0 none none", ordered(model.Op{Kind: model.SetVlan})},
		{"vlan 4094 0,1,63 1", ordered(model.Op{Kind: model.SetVlan, Vid: 4094, Members: 1<<63 | 3, Untagged: 2})},
		{"vlan 1000000 none 0,2,10", ordered(model.Op{Kind: model.SetVlan, Vid: most, Untagged: 1<<10 | 5})},
		{"vlan 1 " + strings.Join(all, ",") + " 63", ordered(model.Op{Kind: model.SetVlan, Vid: 1, Members: math.MaxUint64, Untagged: 1 << 63})},
		{"flush any any", ordered(model.Op{Kind: model.Flush, Port: -1, Vid: -1})},
		{"flush 0 any", ordered(model.Op{Kind: model.Flush, Vid: -1})},
		{"flush any 0", ordered(model.Op{Kind: model.Flush, Port: -1})},
		{"flush 1000000 1000000", ordered(model.Op{Kind: model.Flush, Port: most, Vid: most})},
		{"station 0 00-00-00-00-00-00 0", ordered(model.Op{Kind: model.Order})},
		{"station 7 02-00-00-00-00-1f 3", ordered(model.Op{Kind: model.Order, Key: key.Key{Vid: 7, Mac: 0x02000000001f}, Port: 3})},
		{"station 1000000 ff-ff-ff-ff-ff-ff 1000000", ordered(model.Op{Kind: model.Order, Key: key.Key{Vid: most, Mac: 1<<48 - 1}, Port: most})},
		{"forget 0 00-00-00-00-00-00", ordered(model.Op{Kind: model.Drop})},
		{"forget 1000000 01-80-c2-00-00-0e", ordered(model.Op{Kind: model.Drop, Key: key.Key{Vid: most, Mac: 0x0180c200000e}})},
	}
}

func TestLines(t *testing.T) {
	var text string
	var all []script.Event
	for _, c := range lines() {
		if s := script.Print([]script.Event{c.event}); s != c.line+"\n" {
			t.Errorf("%+v: %q, not %q", c.event, s, c.line)
		}
		if l, n, e := script.Parse(c.line + "\n"); !same(l, []script.Event{c.event}) || n != -1 || e != api.OK {
			t.Errorf("%q: %+v, %d, %d, not %+v", c.line, l, n, e, c.event)
		}
		text, all = text+c.line+"\n", append(all, c.event)
	}
	if script.Print(all) != text {
		t.Errorf("%q", script.Print(all))
	}
	if l, n, e := script.Parse(text); !same(l, all) || n != -1 || e != api.OK {
		t.Errorf("%+v, %d, %d", l, n, e)
	}
	if script.Print(nil) != "" || script.Print([]script.Event{}) != "" {
		t.Error("of no Events there is a line")
	}
	if l, n, e := script.Parse(""); len(l) != 0 || n != -1 || e != api.OK {
		t.Errorf("of no text: %+v, %d, %d", l, n, e)
	}
}

// What an Event's Kind doesn't use doesn't count.
func TestPrintUses(t *testing.T) {
	odd := model.Op{Kind: 99, Port: -9, To: -9, Vid: -9, State: 99, Key: key.Key{Vid: -9, Mac: 1 << 60}, Members: 9, Untagged: 9, Now: 9, Limit: 9, Shard: -9, Bucket: -9, Id: -9}
	of := func(change func(o *model.Op)) script.Event {
		o := odd
		change(&o)
		return script.Event{Kind: script.Order, Port: -9, N: -9, Bytes: []byte{9}, Op: o}
	}
	station := key.Key{Vid: 5, Mac: 0x020000000001}
	for _, c := range []struct {
		event script.Event
		want  string
	}{
		{script.Event{Kind: script.Pick, N: 3, Port: -9, Bytes: []byte{9}, Op: odd}, "pick 3\n"},
		{script.Event{Kind: script.Frame, N: -9, Port: 3, Op: odd}, "frame 3 -\n"},
		{script.Event{Kind: script.Frame, Port: 3, Bytes: []byte{}}, "frame 3 -\n"},
		{script.Event{Kind: script.Tick, N: 3, Port: wrong, Bytes: []byte{9}, Op: odd}, "tick 3\n"},
		{script.Event{Kind: script.Sweep, N: -9, Port: -9, Bytes: []byte{9}, Op: odd}, "sweep\n"},
		{script.Event{Kind: script.Change, N: 1, Port: -9, Bytes: []byte{9}, Op: odd}, "change on\n"},
		{script.Event{Kind: script.Change, N: 2, Port: -9, Bytes: []byte{9}, Op: odd}, "change off\n"},
		{script.Event{Kind: script.Change, N: -1}, "change off\n"},
		{script.Event{Kind: script.Change, N: wrong}, "change off\n"},
		{script.Event{Kind: script.Round, N: 3, Port: wrong, Bytes: []byte{9}, Op: odd}, "round 3\n"},
		{of(func(o *model.Op) { o.Kind, o.Port, o.State = model.SetState, 2, port.Learning }), "state 2 learning\n"},
		{of(func(o *model.Op) { o.Kind, o.Vid = model.SetVlan, 2 }), "vlan 2 0,3 0,3\n"},
		{of(func(o *model.Op) { o.Kind, o.Port, o.Vid = model.Flush, -1, 2 }), "flush any 2\n"},
		{of(func(o *model.Op) { o.Kind, o.Port, o.Key = model.Order, 2, station }), "station 5 02-00-00-00-00-01 2\n"},
		{of(func(o *model.Op) { o.Kind, o.Key = model.Drop, station }), "forget 5 02-00-00-00-00-01\n"},
	} {
		if s := script.Print([]script.Event{c.event}); s != c.want {
			t.Errorf("%+v: %q", c.event, s)
		}
	}
}

// Without a line of one of them there is no text.
func TestPrintNone(t *testing.T) {
	var l []script.Event
	for _, n := range []int{-1, wrong, math.MinInt, math.MaxInt, 1 << 32} {
		for _, kind := range []int{script.Pick, script.Tick, script.Round} {
			l = append(l, script.Event{Kind: kind, N: n})
		}
		l = append(l, script.Event{Kind: script.Frame, Port: n}, script.Event{Kind: script.Frame, Port: n, Bytes: []byte{1}},
			ordered(model.Op{Kind: model.SetState, Port: n}), ordered(model.Op{Kind: model.SetVlan, Vid: n}),
			ordered(model.Op{Kind: model.Order, Port: n}), ordered(model.Op{Kind: model.Order, Key: key.Key{Vid: n}}), ordered(model.Op{Kind: model.Drop, Key: key.Key{Vid: n}}))
		if n != -1 {
			l = append(l, ordered(model.Op{Kind: model.Flush, Port: n}), ordered(model.Op{Kind: model.Flush, Vid: n}))
		}
	}
	l = append(l, ordered(model.Op{Kind: model.Flush, Port: -2}), ordered(model.Op{Kind: model.Flush, Vid: -2}))
	for _, kind := range []int{-1, 7, 8, math.MaxInt, math.MinInt} {
		l = append(l, script.Event{Kind: kind})
	}
	for _, kind := range []int{-1, model.GetState, model.GetMembers, model.Learn, model.Lookup, model.Age, model.Put, model.Get, model.Send, 13, math.MaxInt, math.MinInt} {
		l = append(l, ordered(model.Op{Kind: kind}))
	}
	for _, state := range []int{-1, 5, math.MaxInt, math.MinInt} {
		l = append(l, ordered(model.Op{Kind: model.SetState, State: state}))
	}
	for _, m := range []mac.Mac{1 << 48, 1<<48 | 0x020000000001, math.MaxUint64} {
		l = append(l, ordered(model.Op{Kind: model.Order, Key: key.Key{Vid: 1, Mac: m}}), ordered(model.Op{Kind: model.Drop, Key: key.Key{Vid: 1, Mac: m}}))
	}
	sweep := script.Event{Kind: script.Sweep}
	for _, e := range l {
		for _, list := range [][]script.Event{{e}, {e, sweep}, {sweep, e}, {sweep, e, sweep}} {
			if s := script.Print(list); s != "" {
				t.Errorf("%+v: %q", list, s)
			}
		}
	}
}

// A grammar of lines, by itself; whether a set's ports are rising it doesn't tell.
const (
	num     = `(0|[1-9][0-9]{0,5}|1000000)`
	anyNum  = `(any|` + num + `)`
	set     = `(none|([0-9]|[1-5][0-9]|6[0-3])(,([0-9]|[1-5][0-9]|6[0-3]))*)`
	address = `[0-9a-f]{2}(-[0-9a-f]{2}){5}`
)

var grammar = regexp.MustCompile(`\A(` + strings.Join([]string{
	`(pick|tick|round) ` + num, `sweep`, `change (on|off)`, `frame ` + num + ` (-|([0-9a-f]{2})+)`,
	`state ` + num + ` (disabled|blocking|listening|learning|forwarding)`, `vlan ` + num + ` ` + set + ` ` + set,
	`flush ` + anyNum + ` ` + anyNum, `station ` + num + ` ` + address + ` ` + num, `forget ` + num + ` ` + address,
}, "|") + `)\z`)

func isRising(set string) bool {
	var l []int
	for _, word := range strings.Split(set, ",") {
		n, _ := strconv.Atoi(word)
		if len(l) > 0 && n <= l[len(l)-1] {
			return false
		}
		l = append(l, n)
	}
	return true
}

func isLine(line string) bool {
	w := strings.Split(line, " ")
	return grammar.MatchString(line) && (w[0] != "vlan" || isRising(w[2]) && isRising(w[3]))
}

// parsedAlone holds what a line alone is parsed to against the grammar.
func parsedAlone(t *testing.T, line string) bool {
	t.Helper()
	l, n, e := script.Parse(line + "\n")
	if !isLine(line) {
		if len(l) != 0 || n != 0 || e != api.ErrWord {
			t.Errorf("%q: %+v, %d, %d", line, l, n, e)
		}
		return false
	}
	if len(l) != 1 || n != -1 || e != api.OK || script.Print(l) != line+"\n" {
		t.Errorf("%q: %+v, %d, %d, %q", line, l, n, e, script.Print(l))
	}
	return true
}

// Each line with one byte changed, less, or more; with words changed, less, or more.
func TestParseJustSo(t *testing.T) {
	right, not := 0, 0
	try := func(line string) {
		if strings.Contains(line, "\n") {
			return
		}
		if parsedAlone(t, line) {
			right++
		} else {
			not++
		}
	}
	for _, c := range lines() {
		line := c.line
		for i := range len(line) + 1 {
			for _, with := range []string{"", " ", "0", "1", "7", "a", "f", "A", "F", "g", "-", "+", ",", "_", "x", "\t", "\r", "\x00", "\xff", "é", "any", "none", "on"} {
				try(line[:i] + with + line[i:])
				if i < len(line) {
					try(line[:i] + with + line[i+1:])
				}
			}
		}
		w := strings.Split(line, " ")
		for i := range w {
			for _, with := range []string{"", "-", "0", "00", "-1", "-0", "+1", "1000001", "0x1", "any", "none", "on", "off", "sweep", "pick", "0,1", "1,0", "1,1", "64", "63", "forwarding", "Forwarding", "00-00-00-00-00-00", "abc", "ab", "AB"} {
				changed := slices.Clone(w)
				changed[i] = with
				try(strings.Join(changed, " "))
				try(strings.Join(slices.Insert(slices.Clone(w), i, with), " "))
				try(line + " " + with)
			}
			try(strings.Join(slices.Delete(slices.Clone(w), i, i+1), " "))
		}
		try(strings.ToUpper(line))
		try(line + "\r")
		try(" " + line)
		try(line + " ")
	}
	if right < 100 || not < 1000 {
		t.Error(right, not)
	}
}

func TestParseNone(t *testing.T) {
	for _, line := range []string{
		"", " ", "-", "what", "Sweep", "sweeps", "sweep ", " sweep", "sweep 0", "pick", "pick ", "pick  1", "pick 1 ", "pick 01", "pick -1", "pick +1", "pick 1000001", "pick one", "pick 1 2",
		"frame 0", "frame 0 ", "frame 0 0", "frame 0 000", "frame 0 AB", "frame 0 ab cd", "frame 0 --", "frame 0 0x", "frame 0 +1", "frame 0 _1", "frame - 00", "change", "change 1", "change On", "change offf",
		"state 0", "state 0 open", "state 0 4", "state forwarding 0", "vlan 1 0", "vlan 1 1,0 none", "vlan 1 none 0,0", "vlan 1 64 none", "vlan 1 0, none", "vlan 1 none none none", "flush", "flush any", "flush -1 any", "flush any -1", "flush none none",
		"station 1 02-00-00-00-00-01", "station 1 020000000001 0", "station 1 02:00:00:00:00:01 0", "station 1 02-00-00-00-00-0A 0", "station any 02-00-00-00-00-01 0", "forget 1", "forget 1 02-00-00-00-00-01 0", "forget 1 02-00-00-00-00", "order 1", "plan 2", "quiet", "state 0 disabled 0",
	} {
		parsedAlone(t, line)
		for _, c := range []struct {
			text string
			want int
		}{
			{line + "\n", 0}, {"sweep\n" + line + "\n", 1}, {"sweep\n" + line + "\nsweep\n", 1}, {"sweep\npick 1\n" + line + "\n" + line + "\n", 2}, {"sweep\nsweep\n" + line + "\nsweep", 2},
		} {
			if l, n, e := script.Parse(c.text); len(l) != 0 || n != c.want || e != api.ErrWord {
				t.Errorf("%q: %+v, %d, %d", c.text, l, n, e)
			}
		}
	}
}

// The last line is to be ended by a line feed, too, by one alone.
func TestParseEnd(t *testing.T) {
	for _, c := range []struct {
		text string
		want int
	}{
		{"sweep", 0}, {"sweep\nsweep", 1}, {"sweep\nsweep\nsweep ", 2}, {"sweep\n\n", 1}, {"\n", 0}, {"\nsweep\n", 0}, {"sweep\n\nsweep\n", 1}, {"sweep\r\n", 0}, {"sweep\n ", 1}, {"sweep\x00", 0}, {"sweep\n-", 1},
	} {
		if l, n, e := script.Parse(c.text); len(l) != 0 || n != c.want || e != api.ErrWord {
			t.Errorf("%q: %+v, %d, %d", c.text, l, n, e)
		}
	}
}

// What is printed is parsed again, whatever Events they are; and what bytes say.
func TestPrintParse(t *testing.T) {
	x := &numbers{4}
	for range 1000 {
		var l []script.Event
		for range x.below(20) {
			l = append(l, x.event())
		}
		s := script.Print(l)
		if got, n, e := script.Parse(s); !same(got, l) || n != -1 || e != api.OK || (s == "") != (len(l) == 0) || strings.Count(s, "\n") != len(l) {
			t.Fatalf("%+v: %q: %+v, %d, %d", l, s, got, n, e)
		}
	}
	for _, p := range plans() {
		l := script.Decode(p, x.bytes(2000))
		if got, n, e := script.Parse(script.Print(l)); !same(got, l) || n != -1 || e != api.OK {
			t.Errorf("of %d ports: %d, %d", p.Ports, n, e)
		}
	}
}

// What is parsed is printed by just its text: texts with some bytes changed.
func TestParsePrint(t *testing.T) {
	x := &numbers{5}
	signs := []byte("0123456789abcdefg-,+ \n\r\tonyNONE\x00\xff")
	right, not := 0, 0
	for range 20000 {
		var l []script.Event
		for range 1 + x.below(3) {
			l = append(l, x.event())
		}
		b := []byte(script.Print(l))
		for range x.below(3) {
			b[x.below(len(b))] = one(x, signs...)
		}
		s := string(b)
		want, lines := -1, strings.Split(s, "\n")
		for i, line := range lines {
			if last := i == len(lines)-1; want < 0 && (last && line != "" || !last && !isLine(line)) {
				want = i
			}
		}
		got, n, e := script.Parse(s)
		if n != want || (e == api.OK) != (want < 0) || e != api.OK && (e != api.ErrWord || len(got) != 0) || e == api.OK && script.Print(got) != s {
			t.Fatalf("%q: %+v, %d, %d, not %d", s, got, n, e, want)
		}
		if e == api.OK {
			right++
		} else {
			not++
		}
	}
	if right < 1000 || not < 1000 {
		t.Error(right, not)
	}
}

// What is handed in isn't kept or changed, its spare room neither; no two Events share Bytes.
func TestTextIsNew(t *testing.T) {
	l := append(make([]script.Event, 0, 4), script.Event{Kind: script.Frame, Port: 1, Bytes: append(make([]byte, 0, 9), 1, 2)}, ordered(model.Op{Kind: model.SetVlan, Vid: 1, Members: 3}))
	was := copied(l)
	s := script.Print(l)
	if !same(l, was) || l[:3][2].Kind != 0 || l[0].Bytes[:3][2] != 0 {
		t.Errorf("%+v", l)
	}
	l[0].Bytes[0] = 9
	if s != "frame 1 0102\nvlan 1 0,1 none\n" {
		t.Error(s)
	}
	text := "frame 1 0102\nframe 1 0102\n"
	a, _, _ := script.Parse(text)
	b, _, _ := script.Parse(text)
	a[0].Bytes[0] = 9
	_ = append(a[0].Bytes, 9)
	a[0].Op.Members = vlan.Set(9)
	if !sameEvent(a[1], b[1]) || !sameEvent(b[0], b[1]) || b[0].Bytes[0] != 1 {
		t.Errorf("%+v, %+v", a, b)
	}
}
