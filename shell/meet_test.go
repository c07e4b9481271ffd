package shell_test

import (
	"fmt"
	"slices"
	"strings"
	"testing"

	"patchbay/port"
	"patchbay/shell"
)

// Whatever lines there are: the replies are those of a switch that is told by its calls; audit is ok at any moment; behind quiet no port waits for a number.
func TestAnyLines(t *testing.T) {
	replies := map[string]int{}
	for seed := range uint64(60) {
		x := &numbers{seed}
		s, p := shell.New(), &plain{}
		try := func(l line) {
			t.Helper()
			got := s.Do(l.text)
			if want := l.reply(p); got != want {
				t.Fatalf("seed %d: %q: %q, not %q", seed, l.text, got, want)
			}
			replies[got]++
		}
		for range 2 {
			for had := p.s; p.s == had; {
				try(planLine(x))
			}
			for i := range p.plan.Ports {
				try(stateLine(i, port.Forwarding))
			}
			for i, l := range some(x, 800) {
				try(l)
				if i%50 == 0 {
					dialog(t, s, "audit", "ok")
				}
			}
			replies["out"] += len(p.s.Out())
		}
		behindQuiet(t, s)
	}
	if replies["out"] < 100 || replies["no"] < 100 || replies["no plan"] == 0 || replies["what"] > 0 {
		t.Error(replies["out"], replies["no"], replies["no plan"], replies["what"])
	}
}

// behindQuiet: nothing is wrong, and nothing waits.
func behindQuiet(t *testing.T, s *shell.Shell) {
	t.Helper()
	settle(t, s)
	dialog(t, s, "audit", "ok", "quiet", "quiet 0")
	ports := len(strings.Split(s.Do("ports"), ";"))
	for from := range ports {
		for to := range ports {
			if c := s.Do(fmt.Sprintf("counts %d %d", from, to)); !strings.HasSuffix(c, " waits 0") {
				t.Fatalf("from %d to %d: %s", from, to, c)
			}
		}
	}
}

// A Shell hangs on its lines alone: two that have the same lines reply the same, whatever others do between.
func TestAlone(t *testing.T) {
	for seed := range uint64(10) {
		x := &numbers{100 + seed}
		lines := []string{"plan 4 2 1 2 1 2 30 5 1 3 1:0,1,2,3:0,1 7:0,1,2:none", "state 0 forwarding", "state 1 forwarding", "state 2 forwarding", "quiet"}
		for _, l := range some(x, 500) {
			lines = append(lines, l.text)
		}
		want := shell.Lines(lines)
		a, b := shell.New(), shell.New()
		var first, second []string
		for i, l := range lines {
			first = append(first, a.Do(l))
			if i >= 7 {
				second = append(second, b.Do(lines[i-7]))
			}
		}
		if !slices.Equal(first, want) || !slices.Equal(second, want[:len(want)-7]) {
			t.Fatalf("seed %d: the replies differ", seed)
		}
	}
}

// Any bytes are lines, too: each has a reply.
func TestAnyBytes(t *testing.T) {
	x := &numbers{200}
	s := ready(t, small)
	signs := []byte("0123456789abcdef-,: \n\tpicktronesw\x00\xff")
	for range 20000 {
		b := make([]byte, x.below(30))
		for i := range b {
			b[i] = one(x, signs...)
		}
		line := string(b)
		if (s.Do(line) == "what") == isLine(line) {
			t.Errorf("%q", line)
		}
	}
	behindQuiet(t, s)
}

// The greatest plan.
func TestGreatest(t *testing.T) {
	plan := "plan 64 8 16 8 8 64 300 15 inf 0"
	members := "0"
	for i := range 63 {
		members += fmt.Sprintf(",%d", i+1)
	}
	for i := range 16 {
		plan += fmt.Sprintf(" %d:%s:none", 4079+i, members)
	}
	s := ready(t, plan)
	for i := range 64 {
		dialog(t, s, fmt.Sprintf("frame %d %s", i, digits(broadcast, station+1, 4094)), fmt.Sprint(i))
	}
	settle(t, s)
	dialog(t, s, "counts 63 0", "offered 1 full 0 sent 1 late 0 drained 0 waits 0", "audit", "ok", "refused 64", "no")
	if n := strings.Count(s.Do("out"), ";"); n != 64*63-1 {
		t.Error(n)
	}
	if l := strings.Split(s.Do("vlans"), ";"); len(l) != 16 || l[15] != "4094 "+members+" none" {
		t.Error(l)
	}
}
