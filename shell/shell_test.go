package shell_test

import (
	"fmt"
	"regexp"
	"slices"
	"strings"
	"testing"

	"patchbay/key"
	"patchbay/mac"
	"patchbay/shell"
)

// The chapter's example, and the document's.
func TestExample(t *testing.T) {
	s := shell.New()
	dialog(t, s, "plan 2 1 1 4 2 4 300 15 inf 0 1:0,1:none", "ok", "state 0 forwarding", "ok", "state 1 forwarding", "ok")
	if settle(t, s) == 0 {
		t.Error("there was nothing to do")
	}
	dialog(t, s, "frame 0 "+digits(broadcast, station+2, 0), "0")
	if settle(t, s) == 0 {
		t.Error("there was nothing to do")
	}
	dialog(t, s, "out", "0 0 1 64")
}

// all lines that there are, of port 0, and of port 1.
var all = []string{
	"frame 0 -", "frame 1 00ff", "pick 0", "pick 1000000", "sweep", "state 0 disabled", "state 1 forwarding", "vlan 1 0,1 none", "flush any any", "flush 0 1", "station 1 02-00-00-00-00-01 0", "forget 1 02-00-00-00-00-01",
	"tick 0", "tick 1000000", "change on", "change off", "round 0", "round 1000000", "quiet", "out", "counts 0 1", "refused 1", "ports", "vlans", "entries", "audit", "time",
}

// Where there is no switch.
func TestNoPlan(t *testing.T) {
	var none *shell.Shell
	for _, s := range []*shell.Shell{shell.New(), new(shell.Shell)} {
		for range 2 {
			for _, l := range all {
				dialog(t, s, l, "no plan", l+" ", "what", " "+l, "what", l+"\n", "what")
			}
			dialog(t, s, "plan 1 1 1 4 2 4 300 15 inf 0", "no plan", "plan", "what")
		}
		dialog(t, s, "counts 9 9", "no plan", "refused 99", "no plan", "frame 99 -", "no plan", "state 99 learning", "no plan", "counts 9", "what")
	}
	for _, l := range append([]string{small, "", "what"}, all...) {
		dialog(t, none, l, "what")
	}
	s := shell.New()
	dialog(t, s, small, "ok", "time", "tick 0", "out", "none", "entries", "none", "vlans", "1 0,1,2 0,2;7 0,1 none", "ports", "disabled 0;disabled 0;disabled 0", "audit", "ok", "quiet", "quiet 0")
	for _, l := range all {
		if got := s.Do(l); got == "what" || got == "no plan" {
			t.Errorf("%q: %q", l, got)
		}
	}
}

func TestEvents(t *testing.T) {
	s := shell.New()
	dialog(t, s,
		small, "ok", "pick 0", "no", "pick 6", "no", "pick 7", "no", "pick 8", "no", "pick 1000000", "no",
		"sweep", "ok", "sweep", "no", "pick 6", "ok", "sweep", "no",
		"state 0 forwarding", "ok", "state 2 learning", "ok", "state 3 forwarding", "no", "state 1000000 disabled", "no", "pick 7", "ok",
		"vlan 1 0,1,2 0", "ok", "vlan 7 none 63", "ok", "vlan 2 0 none", "no", "vlan 0 none none", "no",
		"flush any any", "ok", "flush 99 99", "ok", "flush 0 any", "ok",
		"station 1 02-00-00-00-00-01 1", "ok", "station 9 02-00-00-00-00-09 2", "ok", "station 1 02-00-00-00-00-01 3", "no", "station 0 02-00-00-00-00-01 1", "no", "station 4095 02-00-00-00-00-01 1", "no", "station 1 03-00-00-00-00-01 1", "no", "station 1 00-00-00-00-00-00 1", "no",
		"forget 1 02-00-00-00-00-03", "ok", "forget 1 ff-ff-ff-ff-ff-ff", "no", "forget 0 02-00-00-00-00-03", "no",
		"tick 5", "ok", "tick 0", "ok", "time", "tick 5", "change on", "ok", "change off", "ok", "round 0", "ok", "round 3", "ok",
		"frame 0 -", "0", "frame 2 00", "1", "frame 3 00", "no", "frame 1000000 -", "no", "pick 0", "ok",
	)
	settle(t, s)
	dialog(t, s, "frame 0 "+digits(broadcast, station+5, 0), "2")
	settle(t, s)
	dialog(t, s,
		"ports", "forwarding 1;disabled 0;learning 1", "vlans", "1 0,1,2 0;7 none none", "audit", "ok", "pick 7", "no", "pick 0", "no", "quiet", "quiet 0",
		"refused 0", "taken 1 short 1 long 0 form 0 source 0 reserved 0 tag 0 vlan 0 member 0 state 0 storm 0",
		"refused 2", "taken 0 short 1 long 0 form 0 source 0 reserved 0 tag 0 vlan 0 member 0 state 0 storm 0",
		"refused 3", "no", "refused 1000000", "no", "counts 0 3", "no", "counts 3 0", "no", "counts 1000000 1000000", "no",
		"counts 0 2", "offered 1 full 0 sent 0 late 1 drained 0 waits 0", "counts 2 0", "offered 0 full 0 sent 0 late 0 drained 0 waits 0", "out", "none",
	)
	dialog(t, s, "entries", "1 02-00-00-00-00-01 1 static;9 02-00-00-00-00-09 2 static;1 02-00-00-00-00-05 0 5")
}

// The tick comes round.
func TestTime(t *testing.T) {
	s := shell.New()
	dialog(t, s, small, "ok")
	for range 4294 {
		s.Do("tick 1000000")
	}
	dialog(t, s, "time", "tick 4294000000", "tick 967295", "ok", "time", "tick 4294967295", "tick 3", "ok", "time", "tick 2")
}

// Of frames that went out: by Marks; with a tag, and without.
func TestOut(t *testing.T) {
	s := ready(t, small)
	dialog(t, s, "frame 1 "+digits(broadcast, station+1, 7), "0", "frame 0 "+digits(broadcast, station+2, 0), "1")
	pick(s, 0) // the one that came last
	pick(s, 5)
	dialog(t, s, "out", "1 0 2 60")
	pick(s, 4)
	dialog(t, s, "out", "1 0 2 60;1 0 1 64")
	settle(t, s)
	dialog(t, s, "out", "1 0 2 60;1 0 1 64;0 1 0 60", "frame 2 "+digits(station+2, station+3, 0), "2")
	settle(t, s)
	dialog(t, s, "out", "1 0 2 60;1 0 1 64;0 1 0 60;2 2 0 60")
}

// pick has one task alone go on, as long as it has something to do.
func pick(s *shell.Shell, task int) {
	for s.Do(fmt.Sprintf("pick %d", task)) == "ok" {
	}
}

// Each number in counts, each reason in refused (but Tag: no port of a plan's line refuses by it).
func TestNumbers(t *testing.T) {
	s := ready(t, "plan 2 1 1 4 2 1 300 15 0 3 5:0,1:none 6:0:none")
	frame := digits(broadcast, station+1, 0)
	for range 3 {
		s.Do("frame 0 " + frame)
	}
	pick(s, 0)
	dialog(t, s, "counts 0 1", "offered 3 full 2 sent 0 late 0 drained 0 waits 1", "counts 1 0", "offered 0 full 0 sent 0 late 0 drained 0 waits 0")
	s.Do("state 1 blocking")
	pick(s, 5)
	dialog(t, s, "counts 0 1", "offered 3 full 2 sent 0 late 0 drained 1 waits 0")
	s.Do("frame 0 " + digits(station+2, station+1, 0))
	settle(t, s)
	dialog(t, s, "counts 0 1", "offered 4 full 2 sent 0 late 1 drained 1 waits 0")
	s.Do("state 1 forwarding")
	settle(t, s)
	for range 6 {
		s.Do("frame 0 " + digits(station+2, station+1, 5))
		settle(t, s)
	}
	dialog(t, s, "counts 0 1", "offered 10 full 2 sent 6 late 1 drained 1 waits 0")

	dialog(t, s, "refused 0", "taken 10 short 0 long 0 form 0 source 0 reserved 0 tag 0 vlan 0 member 0 state 0 storm 0")
	whole := digits(broadcast, station+1, 0)
	for _, c := range []struct {
		why, frame   string
		times, count int // as often it comes, as many are counted
	}{
		{"short", whole[:118], 1, 1}, {"long", whole + strings.Repeat("00", 1455), 2, 2}, {"form", whole[:24] + "05ff" + whole[28:], 3, 3},
		{"source", digits(broadcast, broadcast, 0), 4, 4}, {"reserved", digits(0x0180c2000000, station+1, 0), 5, 5}, {"vlan", digits(broadcast, station+1, 9), 6, 6}, {"member", digits(broadcast, station+1, 6), 7, 7},
		{"storm", whole, 4, 1},
	} {
		for range c.times {
			s.Do("frame 1 " + c.frame)
		}
		settle(t, s)
		if got := s.Do("refused 1"); !strings.Contains(got+" ", fmt.Sprintf(" %s %d ", c.why, c.count)) {
			t.Errorf("%s: %s", c.why, got)
		}
	}
	s.Do("state 1 blocking")
	settle(t, s)
	for range 8 {
		s.Do("frame 1 " + digits(station, station+1, 0))
	}
	settle(t, s)
	dialog(t, s, "refused 1", "taken 3 short 1 long 2 form 3 source 4 reserved 5 tag 0 vlan 6 member 7 state 8 storm 1", "audit", "ok")
}

// Each of a plan's words has its place.
func TestPlanWords(t *testing.T) {
	frame := digits(broadcast, station+1, 0)
	// The first VLAN's number is that of frames without a tag; all others are taken, too.
	s := ready(t, "plan 2 1 1 4 2 4 300 15 inf 0 6:0,1:0,1 9:0,1:none")
	dialog(t, s, "frame 0 "+frame, "0", "frame 0 "+digits(broadcast, station+1, 9), "1", "frame 1 "+digits(broadcast, station+2, 6), "2")
	settle(t, s)
	dialog(t, s, "refused 0", "taken 2 short 0 long 0 form 0 source 0 reserved 0 tag 0 vlan 0 member 0 state 0 storm 0", "entries", "6 02-00-00-00-00-01 0 0;6 02-00-00-00-00-02 1 0;9 02-00-00-00-00-01 0 0")
	// With one VLAN.
	s = ready(t, "plan 2 1 1 4 2 4 300 15 inf 0 4094:0,1:0")
	dialog(t, s, "frame 0 "+frame, "0")
	settle(t, s)
	dialog(t, s, "out", "0 0 1 64", "entries", "4094 02-00-00-00-00-01 0 0")
	// Without a VLAN.
	s = ready(t, "plan 2 1 1 4 2 4 300 15 inf 0")
	dialog(t, s, "vlans", "none", "frame 0 "+frame, "0", "quiet", "quiet 1", "refused 0", "taken 0 short 0 long 0 form 0 source 0 reserved 0 tag 0 vlan 1 member 0 state 0 storm 0", "vlan 1 0 0", "no")
	// So many ports, places, numbers of a ring.
	s = ready(t, "plan 4 1 1 2 2 3 300 15 inf 0 1:0,1,2,3:0,1,2,3")
	dialog(t, s, "ports", "forwarding 1;forwarding 1;forwarding 1;forwarding 1")
	for i := range 5 {
		dialog(t, s, fmt.Sprintf("frame 0 %s", digits(broadcast, station+mac.Mac(1+i), 0)), fmt.Sprint(i))
	}
	pick(s, 0)
	dialog(t, s, "counts 0 3", "offered 5 full 2 sent 0 late 0 drained 0 waits 3")
	if n := strings.Count(s.Do("entries"), ";"); n != 1 {
		t.Error(n)
	}
	// Shards and buckets: entries stand by these, as their keys' places tell.
	s = ready(t, "plan 2 2 3 1 2 4 300 15 inf 0 1:0,1:none")
	for i := range 64 {
		s.Do("frame 0 " + digits(station, station+mac.Mac(1+i), 0))
	}
	settle(t, s)
	l := strings.Split(s.Do("entries"), ";")
	last := -1
	for _, e := range l {
		m, _ := mac.Parse(strings.Split(e, " ")[1])
		shard, bucket := key.Place(key.Key{Vid: 1, Mac: m}, 2, 3)
		if shard*3+bucket <= last {
			t.Errorf("%q", l)
		}
		last = shard*3 + bucket
	}
	if len(l) != 6 {
		t.Errorf("%q", l)
	}
	// How long entries live.
	for _, c := range []struct {
		plan, change string
		ticks        int
	}{{"30 5", "off", 30}, {"30 5", "on", 5}, {"5 30", "on", 5}, {"5 30", "off", 5}, {"1000000 0", "off", 1000000}, {"0 1000000", "off", 0}} {
		s = ready(t, "plan 2 1 1 4 2 4 "+c.plan+" inf 0 1:0,1:none")
		dialog(t, s, "change "+c.change, "ok", "frame 0 "+frame, "0")
		settle(t, s)
		s.Do(fmt.Sprintf("tick %d", c.ticks))
		dialog(t, s, "sweep", "ok")
		settle(t, s)
		dialog(t, s, "entries", "1 02-00-00-00-00-01 0 0", "tick 1", "ok", "sweep", "ok")
		settle(t, s)
		dialog(t, s, "entries", "none")
	}
}

// LEVEL and MOST: how many of nine frames to all come at tick 2, and how many of nine more at tick 4.
func TestFloats(t *testing.T) {
	for _, c := range []struct {
		rate        string
		first, then int
	}{
		{"inf 0", 9, 9}, {"nan 0", 9, 9}, {"inf -inf", 9, 9}, {"0 0", 0, 0}, {"0 3", 3, 0}, {"-0 3", 3, 0}, {"-0 -0", 0, 0}, {"1 3", 3, 2}, {"2 1000000", 9, 9}, {"1 nan", 0, 2}, {"3 nan", 0, 6}, {"-inf 5", 0, 0}, {"1 inf", 9, 9}, {"1 -inf", 0, 0}, {"1000000 2", 2, 2}, {"0 inf", 9, 9}, {"-inf inf", 0, 0},
	} {
		s := ready(t, "plan 2 1 1 4 2 8 300 15 "+c.rate+" 1:0,1:none")
		come := func() {
			s.Do("tick 2")
			for range 9 {
				s.Do("frame 0 " + digits(broadcast, station+1, 0))
			}
			settle(t, s)
		}
		come()
		if got := s.Do("refused 0"); !strings.HasPrefix(got, fmt.Sprintf("taken %d ", c.first)) || !strings.HasSuffix(got, fmt.Sprintf(" storm %d", 9-c.first)) {
			t.Errorf("%s: %s, not %d", c.rate, got, c.first)
		}
		come()
		if got := s.Do("refused 0"); !strings.HasPrefix(got, fmt.Sprintf("taken %d ", c.first+c.then)) {
			t.Errorf("%s: %s, not %d more", c.rate, got, c.then)
		}
	}
}

// A plan that can't be: no plan; what isn't one: what. The switch stays.
func TestPlans(t *testing.T) {
	s := ready(t, small)
	s.Do("tick 77")
	before := []string{s.Do("ports"), s.Do("time"), s.Do("vlans")}
	many := ""
	for i := range 17 {
		many += fmt.Sprintf(" %d:0:none", i+1)
	}
	for _, l := range []string{
		"0 1 1 4 2 4 300 15 inf 0", "1 1 1 4 2 4 300 15 inf 0", "65 1 1 4 2 4 300 15 inf 0", "1000000 1 1 4 2 4 300 15 inf 0",
		"2 0 1 4 2 4 300 15 inf 0", "2 9 1 4 2 4 300 15 inf 0", "2 1 0 4 2 4 300 15 inf 0", "2 1 17 4 2 4 300 15 inf 0", "2 1 1 0 2 4 300 15 inf 0", "2 1 1 9 2 4 300 15 inf 0",
		"2 1 1 4 0 4 300 15 inf 0", "2 1 1 4 9 4 300 15 inf 0", "2 1 1 4 2 0 300 15 inf 0", "2 1 1 4 2 65 300 15 inf 0",
		"2 1 1 4 2 4 300 15 inf 0 0:0:none", "2 1 1 4 2 4 300 15 inf 0 4095:0:none", "2 1 1 4 2 4 300 15 inf 0 1:0:none 1:0:none", "2 1 1 4 2 4 300 15 inf 0 2:0:none 1:0:none", "2 1 1 4 2 4 300 15 inf 0 1:2:none", "2 1 1 4 2 4 300 15 inf 0 1:63:none", "2 1 1 4 2 4 300 15 inf 0 1:0:1", "2 1 1 4 2 4 300 15 inf 0 1000000:0:none",
		"64 1 1 4 2 4 300 15 inf 0" + many,
	} {
		dialog(t, s, "plan "+l, "no plan")
	}
	for _, l := range []string{
		"", " ", " 2", " 2 1 1 4 2 4 300 15 inf", " 2 1 1 4 2 4 300 15 inf ", " 2 1 1 4 2 4 300 15 inf 0 ", " 2 1 1 4 2 4 300 15  inf 0", " 02 1 1 4 2 4 300 15 inf 0", " 2 1 1 4 2 4 -1 15 inf 0", " 2 1 1 4 2 4 300 1000001 inf 0", " 1000001 1 1 4 2 4 300 15 inf 0", " two 1 1 4 2 4 300 15 inf 0", " inf 1 1 4 2 4 300 15 inf 0",
		" 2 1 1 4 2 4 300 15 0.5 0", " 2 1 1 4 2 4 300 15 -1 0", " 2 1 1 4 2 4 300 15 +inf 0", " 2 1 1 4 2 4 300 15 Inf 0", " 2 1 1 4 2 4 300 15 inf NaN", " 2 1 1 4 2 4 300 15 inf -nan", " 2 1 1 4 2 4 300 15 inf 1e3", " 2 1 1 4 2 4 300 15 inf 1000001", " 2 1 1 4 2 4 300 15 00 0", " 2 1 1 4 2 4 300 15 inf +0", " 2 1 1 4 2 4 300 15 inf any",
		" 2 1 1 4 2 4 300 15 inf 0 1", " 2 1 1 4 2 4 300 15 inf 0 1:0", " 2 1 1 4 2 4 300 15 inf 0 1:0:none:", " 2 1 1 4 2 4 300 15 inf 0 1:0:none:none", " 2 1 1 4 2 4 300 15 inf 0 :0:none", " 2 1 1 4 2 4 300 15 inf 0 1::none", " 2 1 1 4 2 4 300 15 inf 0 1:0:", " 2 1 1 4 2 4 300 15 inf 0 01:0:none", " 2 1 1 4 2 4 300 15 inf 0 1:1,0:none", " 2 1 1 4 2 4 300 15 inf 0 1:0,0:none", " 2 1 1 4 2 4 300 15 inf 0 1:64:none", " 2 1 1 4 2 4 300 15 inf 0 1:none:0,", " 2 1 1 4 2 4 300 15 inf 0 1:any:none", " 2 1 1 4 2 4 300 15 inf 0 1:0:none 2", " 2 1 1 4 2 4 300 15 inf 0 2:0:none  1:0:none", " 2 1 1 4 2 4 300 15 inf 0 1:0:none\n",
		" 1 1 1 4 2 4 300 15 inf x", " 65 1 1 4 2 4 300 15 inf 0 1:0",
	} {
		dialog(t, s, "plan"+l, "what")
	}
	if after := []string{s.Do("ports"), s.Do("time"), s.Do("vlans")}; !slices.Equal(after, before) {
		t.Errorf("%q, not %q", after, before)
	}
	dialog(t, s, "plan 64 8 16 8 8 64 1000000 1000000 1000000 1000000"+many[:strings.Index(many, " 17")], "ok", "time", "tick 0", "plan 2 1 1 1 1 1 0 0 0 0", "ok", "ports", "disabled 0;disabled 0", "out", "none", "vlans", "none")
}

// An order's Now is the tick at which its line was done, also if it waits: by it the entry that wasn't seen for the longest time makes room, not the first one.
func TestOrdersNow(t *testing.T) {
	s := ready(t, "plan 2 1 1 2 2 4 300 15 inf 0 1:0,1:none")
	dialog(t, s, "frame 0 "+digits(station+1, station+1, 0), "0")
	settle(t, s)
	dialog(t, s, "tick 1", "ok", "frame 0 "+digits(station+2, station+2, 0), "1")
	settle(t, s)
	dialog(t, s, "tick 1", "ok", "frame 0 "+digits(station+1, station+1, 0), "2")
	settle(t, s)
	dialog(t, s, "entries", "1 02-00-00-00-00-01 0 2;1 02-00-00-00-00-02 0 1", "station 1 02-00-00-00-00-03 1", "ok")
	for range 2147 {
		s.Do("tick 1000000")
	}
	dialog(t, s, "tick 483648", "ok", "time", "tick 2147483650") // at that tick both are yet to come
	settle(t, s)
	dialog(t, s, "entries", "1 02-00-00-00-00-01 0 2;1 02-00-00-00-00-03 1 static")
}

// A grammar of all lines but plan, by itself; whether a set's ports are rising it doesn't tell.
const (
	num     = `(0|[1-9][0-9]{0,5}|1000000)`
	anyNum  = `(any|` + num + `)`
	set     = `(none|([0-9]|[1-5][0-9]|6[0-3])(,([0-9]|[1-5][0-9]|6[0-3]))*)`
	address = `[0-9a-f]{2}(-[0-9a-f]{2}){5}`
)

var grammar = regexp.MustCompile(`\A(` + strings.Join([]string{
	`(pick|tick|round|refused) ` + num, `counts ` + num + ` ` + num, `(sweep|quiet|out|ports|vlans|entries|audit|time)`, `change (on|off)`, `frame ` + num + ` (-|([0-9a-f]{2})+)`,
	`state ` + num + ` (disabled|blocking|listening|learning|forwarding)`, `vlan ` + num + ` ` + set + ` ` + set,
	`flush ` + anyNum + ` ` + anyNum, `station ` + num + ` ` + address + ` ` + num, `forget ` + num + ` ` + address,
}, "|") + `)\z`)

func isRising(set string) bool {
	last := -1
	for _, word := range strings.Split(set, ",") {
		n := -1
		if _, e := fmt.Sscan(word, &n); e == nil && n <= last {
			return false
		}
		last = n
	}
	return true
}

func isLine(line string) bool {
	w := strings.Split(line, " ")
	return grammar.MatchString(line) && (w[0] != "vlan" || isRising(w[2]) && isRising(w[3]))
}

// Each line with one byte, or one word, changed, less, or more: what, but for those that are lines, too. With a switch, and without.
func TestWhat(t *testing.T) {
	with, without := ready(t, small), shell.New()
	right, not := 0, 0
	try := func(line string) {
		t.Helper()
		a, b := with.Do(line), without.Do(line)
		if isLine(line) {
			right++
			if a == "what" || a == "no plan" || b != "no plan" {
				t.Errorf("%q: %q, %q", line, a, b)
			}
		} else {
			not++
			if a != "what" || b != "what" {
				t.Errorf("%q: %q, %q", line, a, b)
			}
		}
	}
	for _, line := range all {
		try(line)
		for i := range len(line) + 1 {
			for _, sign := range []string{"", " ", "0", "1", "a", "A", "g", "-", "+", ",", ";", ":", "_", "\t", "\n", "\r", "\x00", "\xff"} {
				try(line[:i] + sign + line[i:])
				if i < len(line) {
					try(line[:i] + sign + line[i+1:])
				}
			}
		}
		w := strings.Split(line, " ")
		for i := range w {
			for _, word := range []string{"", "-", "0", "00", "-1", "-0", "1000001", "any", "none", "on", "off", "inf", "nan", "sweep", "quiet", "counts", "0,1", "1,0", "64", "forwarding", "00-00-00-00-00-00", "ab"} {
				changed := slices.Clone(w)
				changed[i] = word
				try(strings.Join(changed, " "))
				try(strings.Join(slices.Insert(slices.Clone(w), i, word), " "))
				try(line + " " + word)
			}
			try(strings.Join(slices.Delete(slices.Clone(w), i, i+1), " "))
		}
		try(strings.ToUpper(line))
		try(line + "\nsweep")
		try("sweep\n" + line)
		try(line + "\n" + line + "\n")
	}
	if right < 100 || not < 1000 {
		t.Error(right, not)
	}
	dialog(t, with, "audit", "ok")
}

// What isn't a line changes nothing.
func TestWhatChangesNothing(t *testing.T) {
	s := ready(t, small)
	dialog(t, s, "frame 0 00\nframe 0 00", "what", "tick 5\ntick 5", "what", "tick 5\n", "what", "sweep\nsweep", "what", "", "what", "\n", "what", "sweep ", "what", "round 01", "what", "time", "tick 0", "quiet", "quiet 0", "frame 0 -", "0")
}

func TestLines(t *testing.T) {
	if l := shell.Lines(nil); len(l) != 0 {
		t.Errorf("%q", l)
	}
	list := append(make([]string, 0, 9), "time", small, "tick 3", "time", "what", "plan 1")
	want := []string{"no plan", "ok", "ok", "tick 3", "what", "what"}
	was := slices.Clone(list)
	for range 2 {
		if got := shell.Lines(list); !slices.Equal(got, want) {
			t.Errorf("%q", got)
		}
	}
	if !slices.Equal(list, was) || list[:7][6] != "" {
		t.Errorf("%q", list)
	}
}
