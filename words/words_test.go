package words_test

import (
	"math"
	"strconv"
	"strings"
	"testing"

	"patchbay/turn"
	"patchbay/vlan"
	"patchbay/words"
)

func TestNumber(t *testing.T) {
	for n := -3; n <= 1000003; n++ {
		want := strconv.Itoa(n)
		if n < 0 || n > 1000000 {
			want = ""
		}
		if words.Number(n) != want {
			t.Fatalf("%d: %q", n, words.Number(n))
		}
	}
	for _, n := range []int{math.MinInt, math.MaxInt, 1 << 32, -1 << 32} {
		if words.Number(n) != "" {
			t.Errorf("%d: %q", n, words.Number(n))
		}
	}
}

func TestParseNumber(t *testing.T) {
	for n := range 1000001 {
		if got, is := words.ParseNumber(strconv.Itoa(n)); got != n || !is {
			t.Fatalf("%d: %d, %v", n, got, is)
		}
	}
	for _, s := range []string{
		"", " ", "-", "+", "-0", "+0", "-1", "+1", "00", "01", "007", "0000000", "1000001", "1000010", "9999999", "99999999999999999999", "18446744073709551617",
		" 1", "1 ", "1\n", "1_0", "0x1", "1e3", "1.0", "a", "1a", "a1", "\u0661", "\xb2", "none", "any", "inf",
	} {
		if n, is := words.ParseNumber(s); n != 0 || is {
			t.Errorf("%q: %d, %v", s, n, is)
		}
	}
}

func TestSet(t *testing.T) {
	var all []string
	for p := range 64 {
		all = append(all, strconv.Itoa(p))
	}
	for _, c := range []struct {
		set  vlan.Set
		want string
	}{
		{0, "none"}, {1, "0"}, {2, "1"}, {3, "0,1"}, {5, "0,2"}, {1 << 63, "63"}, {1<<63 | 1, "0,63"}, {1<<10 | 1<<9 | 4, "2,9,10"}, {math.MaxUint64, strings.Join(all, ",")},
	} {
		if got := words.Set(c.set); got != c.want {
			t.Errorf("%b: %q", c.set, got)
		}
		if got, is := words.ParseSet(c.want); got != c.set || !is {
			t.Errorf("%q: %b, %v", c.want, got, is)
		}
	}
	for n := range uint64(3000) {
		s := vlan.Set(turn.Mix(n) & turn.Mix(n+3000))
		if got, is := words.ParseSet(words.Set(s)); got != s || !is {
			t.Errorf("%b: %b, %v", s, got, is)
		}
	}
}

func TestNoSet(t *testing.T) {
	for _, s := range []string{
		"", ",", "0,", ",0", ",,", "0,,1", "1,0", "0,0", "0,1,1", "0,2,1", "64", "0,64", "1000000", "1000001", "00", "0,01", "-1", "+1", "none,0", "0,none", "none,none", "None", "none ", " none", "0 1", "0, 1", "0;1", " 0", "0 ", "0\n", "any", "a", "0,a", "\u0661",
	} {
		if set, is := words.ParseSet(s); set != 0 || is {
			t.Errorf("%q: %b, %v", s, set, is)
		}
	}
}
