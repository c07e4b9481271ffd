package port_test

import (
	"math"
	"strings"
	"testing"

	"patchbay/api"
	"patchbay/port"
)

// states are all, by their numbers, with what the document says of each.
var states = []struct {
	name             string
	learns, forwards bool
}{{"disabled", false, false}, {"blocking", false, false}, {"listening", false, false}, {"learning", true, false}, {"forwarding", true, true}}

// noStates are numbers that no state has; many have the lowest bits of one.
var noStates = []int{-1, -2, -5, 5, 6, 7, 8, 16, 127, 128, 255, 256, 257, 260, 1 << 16, 1 << 32, 1<<32 + 4, -1 << 32, -252, math.MaxInt, math.MinInt, math.MinInt + 4}

var epochs = []uint32{0, 1, 2, 3, 127, 128, 255, 256, 257, 65535, 65536, 1<<24 - 1, 1 << 24, 1 << 31, math.MaxUint32 - 1, math.MaxUint32}

func TestStates(t *testing.T) {
	if port.Disabled != 0 || port.Blocking != 1 || port.Listening != 2 || port.Learning != 3 || port.Forwarding != 4 {
		t.Error("the numbers of states")
	}
	for i, s := range states {
		if !port.Right(i) || port.Learns(i) != s.learns || port.Forwards(i) != s.forwards {
			t.Errorf("%s: %v, %v, %v", s.name, port.Right(i), port.Learns(i), port.Forwards(i))
		}
	}
	for _, i := range noStates {
		if port.Right(i) || port.Learns(i) || port.Forwards(i) {
			t.Errorf("%d: %v, %v, %v", i, port.Right(i), port.Learns(i), port.Forwards(i))
		}
	}
}

func TestWordsOfStands(t *testing.T) {
	words := map[uint64]port.Stand{}
	for state := range states {
		for _, epoch := range epochs {
			s := port.Stand{State: state, Epoch: epoch}
			w := port.Word(s)
			if w != uint64(state)+256*uint64(epoch) {
				t.Errorf("%+v: %d", s, w)
			}
			if old, had := words[w]; had {
				t.Errorf("%+v and %+v have the same word", old, s)
			}
			words[w] = s
			if back, ok := port.Of(w); !ok || back != s {
				t.Errorf("%+v: back %+v, %v", s, back, ok)
			}
		}
	}
	for _, state := range noStates {
		for _, epoch := range epochs {
			if w := port.Word(port.Stand{State: state, Epoch: epoch}); w != 0 {
				t.Errorf("%d, %d: %d", state, epoch, w)
			}
		}
	}
	if s, ok := port.Of(0); !ok || s != (port.Stand{}) {
		t.Error("of 0:", s, ok)
	}
}

// refuses: w is no Stand's word.
func refuses(t *testing.T, w uint64) {
	t.Helper()
	if s, ok := port.Of(w); ok || s != (port.Stand{}) {
		t.Errorf("%x: %+v, %v", w, s, ok)
	}
}

func TestNumbersThatAreNoWords(t *testing.T) {
	for low := uint64(5); low < 256; low++ {
		for _, epoch := range epochs {
			refuses(t, low+256*uint64(epoch))
		}
	}
	for bit := 40; bit < 64; bit++ {
		for state := range states {
			refuses(t, 1<<bit+uint64(state))
			refuses(t, 1<<bit+1<<39+256+uint64(state))
		}
		refuses(t, 1<<bit+7)
	}
	refuses(t, math.MaxUint64)
	refuses(t, math.MaxUint64-251) // its lowest 8 bits are a state
	if s, ok := port.Of(1<<40 - 252); !ok || s != (port.Stand{State: port.Forwarding, Epoch: math.MaxUint32}) {
		t.Error("the greatest word:", s, ok)
	}
}

func TestSetCounts(t *testing.T) {
	for from := range states {
		for to := range states {
			for _, epoch := range epochs {
				next := port.Stand{State: to, Epoch: uint32((uint64(epoch) + 1) % (1 << 32))}
				if s, e := port.Set(port.Stand{State: from, Epoch: epoch}, to); s != next || e != api.OK {
					t.Errorf("%d, %d to %d: %+v, %d", from, epoch, to, s, e)
				}
			}
		}
		for _, to := range noStates {
			if s, e := port.Set(port.Stand{State: from, Epoch: 7}, to); s != (port.Stand{}) || e != api.ErrState {
				t.Errorf("%d to %d: %+v, %d", from, to, s, e)
			}
		}
	}
	for _, from := range noStates {
		if s, e := port.Set(port.Stand{State: from, Epoch: 7}, port.Learning); s != (port.Stand{State: port.Learning, Epoch: 8}) || e != api.OK {
			t.Errorf("from %d: %+v, %d", from, s, e)
		}
	}
	if s, _ := port.Set(port.Stand{State: 3, Epoch: math.MaxUint32}, 3); s.Epoch != 0 {
		t.Error("the last Epoch goes to", s.Epoch)
	}
}

func TestExampleSetTwice(t *testing.T) {
	s, _ := port.Set(port.Stand{}, port.Forwarding)
	s, e := port.Set(s, port.Forwarding)
	if w := port.Word(s); w != 516 || e != api.OK {
		t.Error(w, e)
	}
}

func TestNames(t *testing.T) {
	for i, s := range states {
		if port.Name(i) != s.name {
			t.Errorf("Name(%d): %q", i, port.Name(i))
		}
		if back, e := port.Parse(s.name); back != i || e != api.OK {
			t.Errorf("Parse(%q): %d, %d", s.name, back, e)
		}
		for _, wrong := range []string{strings.ToUpper(s.name), strings.ToUpper(s.name[:1]) + s.name[1:], " " + s.name, s.name + " ", s.name + "\n", s.name + "\x00", s.name[1:], s.name[:len(s.name)-1], s.name + s.name} {
			if back, e := port.Parse(wrong); back != 0 || e != api.ErrWord {
				t.Errorf("Parse(%q): %d, %d", wrong, back, e)
			}
		}
	}
	for _, wrong := range []string{"", " ", "0", "4", "off", "disabled blocking", "\xff\xfe", "l", "learn", strings.Repeat("forwarding", 1000)} {
		if back, e := port.Parse(wrong); back != 0 || e != api.ErrWord {
			t.Errorf("Parse(%.20q): %d, %d", wrong, back, e)
		}
	}
	for _, i := range noStates {
		if port.Name(i) != "" {
			t.Errorf("Name(%d): %q", i, port.Name(i))
		}
	}
}
