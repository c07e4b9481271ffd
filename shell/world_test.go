package shell_test

import (
	"cmp"
	"fmt"
	"math"
	"slices"
	"strings"
	"testing"

	"patchbay/api"
	"patchbay/audit"
	"patchbay/book"
	"patchbay/bridge"
	"patchbay/frame"
	"patchbay/key"
	"patchbay/mac"
	"patchbay/model"
	"patchbay/port"
	"patchbay/shell"
	"patchbay/turn"
	"patchbay/vlan"
)

const (
	station   = mac.Mac(0x020000000000) // of station 0: of others so many more
	broadcast = mac.Mac(0xffffffffffff)
	small     = "plan 3 1 1 4 2 4 300 15 inf 0 1:0,1,2:0,2 7:0,1:none" // a plan's line
)

// dialog: lines, each with the reply that it is to have.
func dialog(t *testing.T, s *shell.Shell, lines ...string) {
	t.Helper()
	for i := 0; i+1 < len(lines); i += 2 {
		if got := s.Do(lines[i]); got != lines[i+1] {
			t.Errorf("%d: %q: %q, not %q", i/2, lines[i], got, lines[i+1])
		}
	}
}

// ready is a shell that has done a plan's line, and whose ports are Forwarding, and nobody has anything to do.
func ready(t *testing.T, plan string) *shell.Shell {
	t.Helper()
	s := shell.New()
	dialog(t, s, plan, "ok")
	for i := range len(strings.Split(s.Do("ports"), ";")) {
		dialog(t, s, fmt.Sprintf("state %d forwarding", i), "ok")
	}
	settle(t, s)
	return s
}

// settle answers how many rounds it took.
func settle(t *testing.T, s *shell.Shell) int {
	t.Helper()
	var n int
	reply := s.Do("quiet")
	if _, e := fmt.Sscanf(reply, "quiet %d", &n); e != nil || reply != fmt.Sprintf("quiet %d", n) {
		t.Fatalf("%q", reply)
	}
	return n
}

// digits are a frame's: without a tag if vid is 0.
func digits(dst, src mac.Mac, vid int) string {
	f := frame.Frame{Dst: dst, Src: src, Type: 0x800, Tagged: vid > 0, Tci: uint16(vid)}
	b, e := frame.Write(f)
	if e != api.OK {
		panic(e)
	}
	return fmt.Sprintf("%x", b)
}

// numbers are made one out of another one.
type numbers struct{ seed uint64 }

// below is one of 0 to n - 1.
func (x *numbers) below(n int) int {
	x.seed = turn.Mix(x.seed)
	return int(x.seed >> 1 % uint64(n))
}

// one of some.
func one[T any](x *numbers, l ...T) T { return l[x.below(len(l))] }

// setOf is a set's word.
func setOf(s vlan.Set) string {
	l := vlan.List(s)
	if len(l) == 0 {
		return "none"
	}
	return strings.ReplaceAll(strings.Trim(fmt.Sprint(l), "[]"), " ", ",")
}

func macOf(m mac.Mac) string {
	return strings.ReplaceAll(fmt.Sprintf("% x", mac.Bytes(m)), " ", "-")
}

// plain is a switch that is told by its calls what a shell is told by lines.
type plain struct {
	plan model.Plan
	s    *bridge.Switch
}

func okOr(was bool) string {
	if was {
		return "ok"
	}
	return "no"
}

// line is one that may be, and what the switch is told by it, and replies.
type line struct {
	text  string
	reply func(p *plain) string
}

// planLine is a plan's: now and then one that can't be.
func planLine(x *numbers) line {
	ports := one(x, 2, 2, 3, 4, 5)
	p := model.Plan{Ports: ports, Size: book.Size{Shards: 1 + x.below(3), Buckets: 1 + x.below(3), Slots: 1 + x.below(4)}, Tries: 1 + x.below(3), Ring: 1 + x.below(5), Normal: uint32(x.below(60)), Short: uint32(x.below(60))}
	levelWord, mostWord := one(x, "0", "1", "5", "inf", "-0", "-inf", "nan"), one(x, "0", "1", "3", "1000000", "inf", "-0", "-inf", "nan")
	words := []string{"plan", fmt.Sprint(p.Ports, p.Size.Shards, p.Size.Buckets, p.Size.Slots, p.Tries, p.Ring, p.Normal, p.Short), levelWord, mostWord}
	for i := range x.below(4) {
		v := vlan.Vlan{Vid: 1 + 6*i + x.below(2)*200*(i+x.below(2)), Members: vlan.All(ports) &^ vlan.Set(x.below(8)>>1)}
		v.Untagged = v.Members & vlan.Set(turn.Mix(x.seed))
		if x.below(30) == 0 {
			v.Members = 1 << 63
		}
		p.Vlans = append(p.Vlans, v)
		words = append(words, fmt.Sprintf("%d:%s:%s", v.Vid, setOf(v.Members), setOf(v.Untagged)))
	}
	for range ports {
		p.Rules = append(p.Rules, vlan.Rule{Pvid: 1})
		if len(p.Vlans) > 0 {
			p.Rules[len(p.Rules)-1].Pvid = p.Vlans[0].Vid
		}
	}
	return line{strings.Join(words, " "), func(is *plain) string {
		s, e := bridge.New(p, floatOf(levelWord), floatOf(mostWord))
		if e != api.OK {
			return "no plan"
		}
		is.plan, is.s = p, s
		return "ok"
	}}
}

func floatOf(word string) float64 {
	if word == "-0" {
		return math.Copysign(0, -1)
	}
	var x float64
	if _, e := fmt.Sscan(word, &x); e != nil {
		panic(e)
	}
	return x
}

func orderLine(text string, o model.Op) line {
	return line{text, func(p *plain) string {
		o.Now = p.s.Now()
		return okOr(p.s.Order(o))
	}}
}

func stateLine(at, state int) line {
	return orderLine(fmt.Sprintf("state %d %s", at, port.Name(state)), model.Op{Kind: model.SetState, Port: at, State: state})
}

// event is a line of something that happens.
func event(x *numbers) line {
	at, vid := x.below(6), one(x, 1, 7, 13, 207, 213, 4095)
	k := key.Key{Vid: vid, Mac: one(x, station+1, station+2, station+3, broadcast)}
	switch x.below(12) {
	case 0, 1, 2, 3:
		text := one(x, digits(one(x, broadcast, station+1, station+2), station+mac.Mac(1+x.below(3)), one(x, 0, 0, 1, 7)), "-", "00", digits(station, station, 0)[:100])
		return line{fmt.Sprintf("frame %d %s", at, text), func(p *plain) string {
			var b []byte
			if text != "-" {
				fmt.Sscanf(text, "%x", &b)
			}
			if at >= p.plan.Ports {
				return "no"
			}
			return fmt.Sprint(p.s.Arrive(at, b))
		}}
	case 4:
		n := x.below(20)
		return line{fmt.Sprintf("tick %d", n), func(p *plain) string { p.s.Tick(uint32(n)); return "ok" }}
	case 5:
		on := x.below(2) == 0
		return line{map[bool]string{true: "change on", false: "change off"}[on], func(p *plain) string { p.s.Change(on); return "ok" }}
	case 6:
		return line{"sweep", func(p *plain) string { return okOr(p.s.Sweep()) }}
	case 7:
		return stateLine(at, min(x.below(8), port.Forwarding))
	case 8:
		members, untagged := vlan.Set(turn.Mix(x.seed)|turn.Mix(x.seed+1)), vlan.Set(turn.Mix(x.seed+2))
		return orderLine(fmt.Sprintf("vlan %d %s %s", vid, setOf(members), setOf(untagged)), model.Op{Kind: model.SetVlan, Vid: vid, Members: members, Untagged: untagged})
	case 9:
		at, vid := one(x, -1, at), one(x, -1, vid)
		return orderLine(strings.ReplaceAll(fmt.Sprintf("flush %d %d", at, vid), "-1", "any"), model.Op{Kind: model.Flush, Port: at, Vid: vid})
	case 10:
		return orderLine(fmt.Sprintf("station %d %s %d", vid, macOf(k.Mac), at), model.Op{Kind: model.Order, Key: k, Port: at})
	}
	return orderLine(fmt.Sprintf("forget %d %s", vid, macOf(k.Mac)), model.Op{Kind: model.Drop, Key: k})
}

// going is a line that has tasks picked.
func going(x *numbers) line {
	n := x.below(14)
	switch x.below(30) {
	case 0:
		return line{fmt.Sprintf("round %d", n), func(p *plain) string {
			for range n {
				p.round()
			}
			return "ok"
		}}
	case 1:
		return line{"quiet", func(p *plain) string {
			for n := 0; ; n++ {
				if p.s.Quiet() {
					return fmt.Sprintf("quiet %d", n)
				}
				p.round()
			}
		}}
	}
	return line{fmt.Sprintf("pick %d", n), func(p *plain) string { return okOr(p.s.Pick(n)) }}
}

func (p *plain) round() {
	for k := range p.s.Tasks() {
		p.s.Pick(k)
	}
}

// question is a line that changes nothing.
func question(x *numbers) line {
	a, b := x.below(6), x.below(6)
	switch x.below(8) {
	case 0:
		return line{"out", (*plain).out}
	case 1:
		return line{fmt.Sprintf("counts %d %d", a, b), func(p *plain) string {
			if max(a, b) >= p.plan.Ports {
				return "no"
			}
			c := p.s.Counts(a, b)
			return fmt.Sprintf("offered %d full %d sent %d late %d drained %d waits %d", c.Offered, c.Full, c.Sent, c.Late, c.Drained, c.Waits)
		}}
	case 2:
		return line{fmt.Sprintf("refused %d", a), func(p *plain) string {
			if a >= p.plan.Ports {
				return "no"
			}
			n := p.s.Refused(a)
			return fmt.Sprintf("taken %d short %d long %d form %d source %d reserved %d tag %d vlan %d member %d state %d storm %d",
				n[api.Taken], n[api.Short], n[api.Long], n[api.Form], n[api.Source], n[api.Reserved], n[api.Tag], n[api.Vlan], n[api.Member], n[api.State], n[api.Storm])
		}}
	case 3:
		return line{"ports", (*plain).ports}
	case 4:
		return line{"vlans", (*plain).vlans}
	case 5:
		return line{"entries", (*plain).entries}
	case 6:
		return line{"audit", func(p *plain) string { return cmp.Or(audit.Judge(audit.Of(p.plan, p.s)), "ok") }}
	}
	return line{"time", func(p *plain) string { return fmt.Sprintf("tick %d", p.s.Now()) }}
}

func (p *plain) out() string {
	var l []string
	for _, o := range p.s.Out() {
		l = append(l, fmt.Sprintf("%d %d %d %d", o.Id, o.From, o.To, len(o.Bytes)))
	}
	return cmp.Or(strings.Join(l, ";"), "none")
}

func (p *plain) ports() string {
	var l []string
	for _, x := range p.s.Shape().Stands {
		l = append(l, fmt.Sprintf("%s %d", port.Name(x.State), x.Epoch))
	}
	return strings.Join(l, ";")
}

func (p *plain) vlans() string {
	var l []string
	for _, v := range p.s.Shape().Vlans {
		l = append(l, fmt.Sprintf("%d %s %s", v.Vid, setOf(v.Members), setOf(v.Untagged)))
	}
	return cmp.Or(strings.Join(l, ";"), "none")
}

func (p *plain) entries() string {
	var l []string
	for _, x := range slices.Concat(p.s.Shape().Buckets...) {
		seen := fmt.Sprint(x.Entry.Stamp)
		if x.Entry.Static {
			seen = "static"
		}
		if x.Used {
			l = append(l, fmt.Sprintf("%d %s %d %s", x.Entry.Key.Vid, macOf(x.Entry.Key.Mac), x.Entry.Port, seen))
		}
	}
	return cmp.Or(strings.Join(l, ";"), "none")
}

// some are lines that may be, many of them picks.
func some(x *numbers, n int) []line {
	var l []line
	for range n {
		switch y := x.below(40); {
		case y < 8:
			l = append(l, event(x))
		case y < 12:
			l = append(l, question(x))
		default:
			l = append(l, going(x))
		}
	}
	return l
}
