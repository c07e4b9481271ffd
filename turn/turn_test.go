package turn_test

import (
	"math"
	"math/big"
	"slices"
	"testing"

	"patchbay/turn"
)

const mostTurns = 100000

// seeds are numbers at the edges of 64 bits, and some between.
var seeds = []uint64{0, 1, 2, 7, 1234567, 1<<32 - 1, 1 << 32, 1<<63 - 1, 1 << 63, math.MaxUint64 - 1, math.MaxUint64}

func TestWho(t *testing.T) {
	rows := []struct{ pick, many, want int }{
		{0, 1, 0}, {5, 1, 0}, {-1, 1, 0}, {0, 3, 0}, {1, 3, 1}, {2, 3, 2}, {3, 3, 0}, {7, 3, 1},
		{-1, 3, 0}, {-2, 3, 2}, {-3, 3, 1}, {-1, 10, 5}, {-1, 2, 1}, {-1, 64, 63}, {-1, 7, 1},
		{math.MaxInt, 10, 7}, {math.MinInt, 10, 8}, {math.MinInt, 3, 2}, {math.MinInt + 1, 10, 9},
		{math.MaxInt, math.MaxInt, 0}, {math.MinInt, math.MaxInt, 1}, {-1, math.MaxInt, 1}, {-2, math.MaxInt, 0},
		{-3, math.MaxInt, math.MaxInt - 1}, {5, math.MaxInt, 5}, {1 << 40, 1 << 41, 1 << 40},
		{0, 0, -1}, {5, 0, -1}, {5, -1, -1}, {-1, -1, -1}, {5, math.MinInt, -1}, {math.MinInt, math.MinInt, -1},
	}
	for _, r := range rows {
		if got := turn.Who(r.pick, r.many); got != r.want {
			t.Errorf("Who(%d, %d): %d, not %d", r.pick, r.many, got, r.want)
		}
	}
}

func TestMixOfKnownNumbers(t *testing.T) {
	rows := []struct{ n, want uint64 }{
		{0, 0xE220A8397B1DCDAF}, {0x9E3779B97F4A7C15, 0x6E789E6AA1B965F4}, {0x3C6EF372FE94F82A, 0x06C45D188009454F},
		{1234567, 6457827717110365317}, {1234567 + 0x9E3779B97F4A7C15, 3203168211198807973},
		{-0x9E3779B97F4A7C15 & math.MaxUint64, 0},
	}
	for _, r := range rows {
		if got := turn.Mix(r.n); got != r.want {
			t.Errorf("Mix(%x): %x, not %x", r.n, got, r.want)
		}
	}
}

// mixed is Mix as the chapter tells it, in numbers without a bound.
func mixed(n uint64) uint64 {
	z, all := new(big.Int).SetUint64(n), new(big.Int).Lsh(big.NewInt(1), 64)
	number := func(s string) *big.Int {
		x, _ := new(big.Int).SetString(s, 16)
		return x
	}
	bent := func(by int64) *big.Int {
		return new(big.Int).Xor(z, new(big.Int).Quo(z, big.NewInt(1<<by)))
	}
	z.Add(z, number("9E3779B97F4A7C15")).Mod(z, all)
	z = bent(30)
	z.Mul(z, number("BF58476D1CE4E5B9")).Mod(z, all)
	z = bent(27)
	z.Mul(z, number("94D049BB133111EB")).Mod(z, all)
	return bent(31).Uint64()
}

func TestMixIsAsToldInNumbersWithoutABound(t *testing.T) {
	all := slices.Clone(seeds)
	for i := range uint(64) {
		all = append(all, 1<<i, 3<<i, math.MaxUint64>>i, math.MaxUint64<<i)
	}
	for _, n := range all {
		if got, want := turn.Mix(n), mixed(n); got != want {
			t.Errorf("Mix(%x): %x, not %x", n, got, want)
		}
	}
}

func TestRound(t *testing.T) {
	rows := []struct {
		many, count int
		want        []int
	}{
		{3, 4, []int{0, 1, 2, 0}}, {3, 3, []int{0, 1, 2}}, {3, 2, []int{0, 1}}, {3, 1, []int{0}}, {1, 3, []int{0, 0, 0}},
		{2, 5, []int{0, 1, 0, 1, 0}}, {64, 2, []int{0, 1}}, {math.MaxInt, 3, []int{0, 1, 2}},
	}
	for _, r := range rows {
		if got := turn.Round(r.many, r.count); !slices.Equal(got, r.want) {
			t.Errorf("Round(%d, %d): %v", r.many, r.count, got)
		}
	}
}

// wantMixed is Mixed's list; with long of more than 1 it is that of Bursts.
func wantMixed(many, count, long int, seed uint64) []int {
	l := []int{}
	for i := range count {
		n := new(big.Int).SetUint64(mixed(seed + uint64(i/long)))
		l = append(l, int(n.Mod(n, big.NewInt(int64(many))).Int64()))
	}
	return l
}

func TestMixed(t *testing.T) {
	for _, seed := range seeds {
		for _, many := range []int{1, 2, 3, 7, 64, 1 << 32, math.MaxInt} {
			for _, count := range []int{1, 2, 50} {
				if got, want := turn.Mixed(many, count, seed), wantMixed(many, count, 1, seed); !slices.Equal(got, want) {
					t.Errorf("Mixed(%d, %d, %d): %v, not %v", many, count, seed, got, want)
				}
			}
		}
	}
	if got := turn.Mixed(10, 3, 0); got[0] != 0xE220A8397B1DCDAF%10 {
		t.Error("Mixed(10, 3, 0):", got)
	}
}

func TestBursts(t *testing.T) {
	for _, seed := range seeds {
		for _, many := range []int{1, 2, 3, 64, math.MaxInt} {
			for _, long := range []int{1, 2, 3, 10, 49, 50, 51, math.MaxInt} {
				if got, want := turn.Bursts(many, 50, long, seed), wantMixed(many, 50, long, seed); !slices.Equal(got, want) {
					t.Errorf("Bursts(%d, 50, %d, %d): %v, not %v", many, long, seed, got, want)
				}
			}
			for _, long := range []int{0, -1, -3, math.MinInt} {
				if got, want := turn.Bursts(many, 50, long, seed), turn.Mixed(many, 50, seed); !slices.Equal(got, want) {
					t.Errorf("Bursts(%d, 50, %d, %d): %v, not %v", many, long, seed, got, want)
				}
			}
		}
	}
}

// lists are the three calls of so many turns.
var lists = []struct {
	name string
	call func(many, count int) []int
	at   func(many, i int) int
}{
	{"Round", turn.Round, func(many, i int) int { return i % many }},
	{"Mixed", func(many, count int) []int { return turn.Mixed(many, count, math.MaxUint64-5) },
		func(many, i int) int { return int(turn.Mix(uint64(i)-6) % uint64(many)) }},
	{"Bursts", func(many, count int) []int { return turn.Bursts(many, count, 3, math.MaxUint64-5) },
		func(many, i int) int { return int(turn.Mix(uint64(i/3)-6) % uint64(many)) }},
}

func TestListsAreOfSoManyButNotOfMoreThanMay(t *testing.T) {
	counts := map[int]int{1: 1, 2: 2, mostTurns - 1: mostTurns - 1, mostTurns: mostTurns, mostTurns + 1: mostTurns, 1 << 40: mostTurns, math.MaxInt: mostTurns}
	for _, c := range lists {
		for count, want := range counts {
			l := c.call(5, count)
			if len(l) != want {
				t.Errorf("%s of %d: %d turns", c.name, count, len(l))
			}
			for i, who := range l {
				if who != c.at(5, i) {
					t.Fatalf("%s of %d: turn %d is %d's", c.name, count, i, who)
				}
			}
		}
	}
}

func TestListsOfNobodyAndOfNoTurns(t *testing.T) {
	rows := []struct{ many, count int }{
		{0, 5}, {-1, 5}, {math.MinInt, 5}, {5, 0}, {5, -1}, {5, math.MinInt}, {0, 0}, {-1, -1}, {0, math.MaxInt},
	}
	for _, c := range lists {
		for _, r := range rows {
			if l := c.call(r.many, r.count); len(l) != 0 {
				t.Errorf("%s(%d, %d): %v", c.name, r.many, r.count, l)
			}
		}
	}
}

func TestListsAreNewMemory(t *testing.T) {
	for _, c := range lists {
		l := c.call(4, 30)
		want := slices.Clone(l)
		for i := range l {
			l[i] = 99
		}
		if got := c.call(4, 30); !slices.Equal(got, want) {
			t.Errorf("%s once more: %v", c.name, got)
		}
	}
}

func TestCounts(t *testing.T) {
	rows := []struct {
		many  int
		picks []int
		want  []int
	}{
		{3, []int{0, 4, 3, 2}, []int{2, 1, 1}}, {3, nil, []int{0, 0, 0}}, {3, []int{}, []int{0, 0, 0}}, {1, []int{0, 5, -7}, []int{3}},
		{2, []int{1, 1, 1}, []int{0, 3}}, {3, []int{-1, -2, -3, math.MinInt, math.MaxInt}, []int{1, 2, 2}},
		{0, []int{1}, nil}, {-1, []int{1}, nil}, {math.MinInt, []int{1}, nil}, {0, nil, nil},
	}
	for _, r := range rows {
		if got := turn.Counts(r.many, r.picks); !slices.Equal(got, r.want) {
			t.Errorf("Counts(%d, %v): %v, not %v", r.many, r.picks, got, r.want)
		}
	}
}

func TestCountsLooksAt64AtMost(t *testing.T) {
	picks := []int{0, 63, 64, 65, 127, 128, 1000, 63, -1}
	rows := []struct {
		many  int
		first int // how often it is the turn of 0
		last  int // of 63
		rest  int // of all between
	}{
		{64, 3, 4, 2},               // 65 and 1000 are 1's and 40's
		{65, 2, 3, 3},               // 64 has one turn, that isn't counted; 127 is 62's, 1000 is 25's, -1 is 15's
		{66, 1, 2, 4},               // 127 is 61's, 128 is 62's, 1000 is 10's, -1 is 15's
		{1000, 2, 2, 0},             // 1000 is 0's, -1 is 615's
		{math.MaxInt, 1, 2, 1},      // -1 is 1's
		{math.MaxInt - 1, 1, 2, 1},  // -1 is 3's
		{math.MaxInt - 31, 1, 3, 0}, // -1 is 63's
	}
	for _, r := range rows {
		c := turn.Counts(r.many, picks)
		if len(c) != 64 {
			t.Errorf("Counts of %d: %d numbers", r.many, len(c))
			continue
		}
		rest := 0
		for _, n := range c[1:63] {
			rest += n
		}
		if c[0] != r.first || c[63] != r.last || rest != r.rest {
			t.Errorf("Counts of %d: %v", r.many, c)
		}
	}
	if c := turn.Counts(63, picks); len(c) != 63 || c[0] != 3 || c[1] != 2 || c[62] != 0 {
		t.Error("Counts of 63:", c)
	}
}

func TestCountsOfLists(t *testing.T) {
	for _, many := range []int{1, 2, 5, 64} {
		for _, c := range lists {
			l := c.call(many, 1000)
			want := make([]int, many)
			for _, who := range l {
				if who < 0 || who >= many {
					t.Fatalf("%s of %d: %d's turn", c.name, many, who)
				}
				want[who]++
			}
			if got := turn.Counts(many, l); !slices.Equal(got, want) {
				t.Errorf("Counts of %s of %d: %v, not %v", c.name, many, got, want)
			}
		}
	}
}

func TestCountsLeavesItsPicksAsTheyAre(t *testing.T) {
	room := []int{5, -3, 7, 1 << 40, 0, 2, math.MinInt, 9}
	before := slices.Clone(room)
	for n := range len(room) + 1 {
		first := turn.Counts(3, room[:n])
		want := slices.Clone(first)
		first[0] = -9
		if second := turn.Counts(3, room[:n]); !slices.Equal(second, want) {
			t.Errorf("of %d: %v, then %v", n, want, second)
		}
		if !slices.Equal(room, before) {
			t.Fatal("the picks changed:", room)
		}
	}
	picks := []int{0, 1}
	kept := turn.Counts(2, picks)
	picks[0] = 1
	if !slices.Equal(kept, []int{1, 1}) || !slices.Equal(turn.Counts(2, picks), []int{0, 2}) {
		t.Error("of picks that were changed from outside:", kept)
	}
}
