package shell

import (
	"strconv"
	"strings"

	"patchbay/mac"
	"patchbay/port"
	"patchbay/slot"
	"patchbay/words"
)

const (
	none      = "none"
	semicolon = ";"
)

// reasons are the words for why frames aren't taken, by their numbers.
var reasons = [...]string{"taken", "short", "long", "form", "source", "reserved", "tag", "vlan", "member", "state", "storm"}

// counts: of numbers from one port to another one; refused: of frames that came in at a port.
func (s *Shell) counts(w []string) string {
	n, are := numbers(w)
	if !are || len(n) != 2 {
		return what
	}
	from, to := n[0], n[1]
	if !s.isPort(from) || !s.isPort(to) {
		return no
	}
	c := s.sw.Counts(from, to)
	return join(
		named("offered", c.Offered), named("full", c.Full), named("sent", c.Sent),
		named("late", c.Late), named("drained", c.Drained), named("waits", c.Waits),
	)
}

func (s *Shell) refused(w []string) string {
	n, are := numbers(w)
	if !are || len(n) != 1 {
		return what
	}
	if !s.isPort(n[0]) {
		return no
	}
	var l []string
	for why, count := range s.sw.Refused(n[0]) {
		l = append(l, named(reasons[why], count))
	}
	return join(l...)
}

func (s *Shell) isPort(p int) bool { return p < s.plan.Ports }

func join(list ...string) string { return strings.Join(list, blank) }

func named(name string, n int) string { return join(name, strconv.Itoa(n)) }

// listed are parts of a reply; there may be none.
func listed(l []string) string {
	if len(l) == 0 {
		return none
	}
	return strings.Join(l, semicolon)
}

// out, ports, vlans, entries: one behind the other.
func (s *Shell) out() string {
	var l []string
	for _, o := range s.sw.Out() {
		l = append(l, join(strconv.Itoa(o.Id), strconv.Itoa(o.From), strconv.Itoa(o.To), strconv.Itoa(len(o.Bytes))))
	}
	return listed(l)
}

func (s *Shell) ports() string {
	var l []string
	for _, x := range s.sw.Shape().Stands {
		l = append(l, named(port.Name(x.State), int(x.Epoch)))
	}
	return listed(l)
}

func (s *Shell) vlans() string {
	var l []string
	for _, v := range s.sw.Shape().Vlans {
		l = append(l, join(strconv.Itoa(v.Vid), words.Set(v.Members), words.Set(v.Untagged)))
	}
	return listed(l)
}

func (s *Shell) entries() string {
	var l []string
	for _, places := range s.sw.Shape().Buckets {
		for _, p := range places {
			if p.Used {
				l = append(l, entry(p.Entry))
			}
		}
	}
	return listed(l)
}

func entry(e slot.Entry) string {
	seen := "static"
	if !e.Static {
		seen = strconv.FormatUint(uint64(e.Stamp), 10)
	}
	return join(strconv.Itoa(e.Key.Vid), mac.Text(e.Key.Mac), strconv.Itoa(e.Port), seen)
}
