package gauge_test

import (
	"math"
	"slices"
	"testing"

	"patchbay/gauge"
)

var (
	nan   = math.NaN()
	inf   = math.Inf(1)
	less  = math.Inf(-1)
	minus = math.Copysign(0, -1)
	tiny  = math.SmallestNonzeroFloat64
	huge  = math.MaxFloat64
)

// ordered are numbers of all kinds, each ahead of the next one.
var ordered = []float64{less, -huge, -1e300, -2, -1, -0.5, -0x1p-1022, -2 * tiny, -tiny, minus,
	0, tiny, 2 * tiny, 0x1p-1022, 0.5, 1, math.Nextafter(1, 2), 2, 1e300, huge, inf, nan}

// nans are bits of what is no number: with a sign and without, quiet and signalling.
var nans = []float64{
	nan, -nan, math.Float64frombits(0x7FF8000000000000), math.Float64frombits(0xFFF8000000000000),
	math.Float64frombits(0x7FF0000000000001), math.Float64frombits(0xFFFFFFFFFFFFFFFF),
}

// alike holds numbers against each other bit by bit, so that noughts differ by their sign; what is no number is all one.
func alike(a, b float64) bool {
	return math.IsNaN(a) && math.IsNaN(b) || math.Float64bits(a) == math.Float64bits(b)
}

func same(g, h gauge.Gauge) bool {
	return alike(g.Level, h.Level) && alike(g.Most, h.Most) && alike(g.Room, h.Room) && g.Last == h.Last
}

func TestKind(t *testing.T) {
	rows := []struct {
		x    float64
		want int
	}{
		{inf, gauge.Inf}, {less, gauge.Less}, {0, gauge.Zero}, {minus, gauge.Minus},
		{1, gauge.Plain}, {-1, gauge.Plain}, {0.1, gauge.Plain}, {tiny, gauge.Plain}, {-tiny, gauge.Plain},
		{huge, gauge.Plain}, {-huge, gauge.Plain},
	}
	for _, x := range nans {
		rows = append(rows, struct {
			x    float64
			want int
		}{x, gauge.Nan})
	}
	for _, r := range rows {
		if got := gauge.Kind(r.x); got != r.want {
			t.Errorf("Kind(%v): %d, not %d", r.x, got, r.want)
		}
	}
	kinds := []int{gauge.Plain, gauge.Zero, gauge.Minus, gauge.Inf, gauge.Less, gauge.Nan}
	if !slices.Equal(kinds, []int{0, 1, 2, 3, 4, 5}) {
		t.Error("the kinds' numbers:", kinds)
	}
}

func TestCompareGoesByTheOrder(t *testing.T) {
	for i, a := range ordered {
		for j, b := range ordered {
			want := 0
			if i < j {
				want = -1
			} else if i > j {
				want = 1
			}
			if got := gauge.Compare(a, b); got != want {
				t.Errorf("Compare(%v, %v): %d, not %d", a, b, got, want)
			}
		}
	}
	for _, a := range nans {
		for _, b := range nans {
			if got := gauge.Compare(a, b); got != 0 {
				t.Errorf("Compare of %x and %x: %d", math.Float64bits(a), math.Float64bits(b), got)
			}
		}
		for _, b := range ordered[:len(ordered)-1] {
			if gauge.Compare(a, b) != 1 || gauge.Compare(b, a) != -1 {
				t.Errorf("%x isn't behind %v", math.Float64bits(a), b)
			}
		}
	}
}

func TestTheOrderIsOne(t *testing.T) {
	all := append(slices.Clone(ordered), nans...)
	for _, a := range all {
		for _, b := range all {
			if gauge.Compare(a, b) != -gauge.Compare(b, a) {
				t.Errorf("%v and %v, both ways round", a, b)
			}
			for _, c := range all {
				if gauge.Compare(a, b) <= 0 && gauge.Compare(b, c) <= 0 && gauge.Compare(a, c) > 0 {
					t.Errorf("the order doesn't go through %v, %v, %v", a, b, c)
				}
			}
		}
	}
}

func TestRate(t *testing.T) {
	rows := []struct {
		frames, ticks uint64
		want          float64
	}{
		{1, 0, inf}, {math.MaxUint64, 0, inf}, {0, 0, nan}, {0, 1, 0}, {0, math.MaxUint64, 0},
		{1, 1, 1}, {1, 2, 0.5}, {7, 4, 1.75}, {1, 3, 0.3333333333333333}, {10, 3, 3.3333333333333335},
		{math.MaxUint64, 1, 0x1p64}, {1, math.MaxUint64, 0x1p-64}, {math.MaxUint64, math.MaxUint64, 1},
		{1<<53 + 1, 1, 0x1p53}, {1<<53 + 3, 1, 0x1p53 + 4}, {1 << 63, 1, 0x1p63}, {1<<63 + 1025, 1, 0x1p63 + 2048},
		{1<<53 + 1, 1<<53 + 1, 1}, {1 << 53, 1<<53 + 1, 1},
	}
	for _, r := range rows {
		if got := gauge.Rate(r.frames, r.ticks); !alike(got, r.want) {
			t.Errorf("Rate(%d, %d): %v, not %v", r.frames, r.ticks, got, r.want)
		}
	}
}

func TestBusiest(t *testing.T) {
	rows := []struct {
		l    []float64
		want int
	}{
		{nil, -1}, {[]float64{}, -1}, {[]float64{nan}, -1}, {nans, -1}, {[]float64{less}, 0}, {[]float64{nan, less}, 1},
		{[]float64{nan, minus, 0, 0}, 2}, {[]float64{0, minus}, 0}, {[]float64{minus, minus}, 0},
		{[]float64{1, 2, 2, 1}, 1}, {[]float64{3, 2, 1}, 0}, {[]float64{1, 2, 3}, 2}, {[]float64{-3, -2, -1}, 2},
		{[]float64{1, nan, 2, nan}, 2}, {[]float64{inf, nan}, 0}, {[]float64{huge, inf, inf, nan}, 1},
		{[]float64{less, -huge}, 1}, {[]float64{-tiny, minus}, 1}, {[]float64{0, tiny}, 1}, {ordered, len(ordered) - 2},
	}
	for _, r := range rows {
		if got := gauge.Busiest(r.l); got != r.want {
			t.Errorf("Busiest(%v): %d, not %d", r.l, got, r.want)
		}
	}
}

func TestBusiestLeavesItsListAsItIs(t *testing.T) {
	room := slices.Clone(ordered)
	slices.Reverse(room)
	before := slices.Clone(room)
	for n := range len(room) + 1 {
		first := gauge.Busiest(room[:n])
		if second := gauge.Busiest(room[:n]); second != first {
			t.Errorf("of %d: %d, then %d", n, first, second)
		}
		if !slices.EqualFunc(room, before, alike) {
			t.Fatal("the list changed:", room)
		}
	}
}

func TestNewIsFull(t *testing.T) {
	for _, level := range ordered {
		for _, most := range ordered {
			want := gauge.Gauge{Level: level, Most: most, Room: most, Last: 77}
			if g := gauge.New(level, most, 77); !same(g, want) {
				t.Errorf("New(%v, %v, 77): %v", level, most, g)
			}
		}
	}
}

func TestOpen(t *testing.T) {
	for _, x := range ordered {
		want := math.IsNaN(x) || x == inf
		for _, y := range ordered {
			if g := (gauge.Gauge{Level: x, Most: y, Room: y}); gauge.Open(g) != want {
				t.Errorf("Open of %v: %v", g, !want)
			}
		}
	}
	for _, x := range nans {
		if !gauge.Open(gauge.New(x, 0, 0)) {
			t.Errorf("of Level %x: not Open", math.Float64bits(x))
		}
	}
	if gauge.Open(gauge.Gauge{}) {
		t.Error("a gauge of noughts is Open")
	}
}

// filled are gauges that aren't open, with the Room that they have n ticks behind Last.
var filled = []struct {
	level, most, room float64
	n                 uint32
	want              float64
}{
	{0.5, 10, 1, 0, 1}, {0.5, 10, 1, 1, 1.5}, {0.5, 10, 1, 4, 3}, {0.5, 10, 1, 18, 10}, {0.5, 10, 1, 19, 10}, {0.5, 10, 1, 1000, 10},
	{1, 1 << 40, 0, 1<<31 - 1, 1<<31 - 1}, {1, 1 << 40, 3, 1 << 31, 3}, {1, 1 << 40, 3, math.MaxUint32, 3},
	{0, 10, 4, 9, 4}, {minus, 10, 4, 9, 4}, {0, 3, 4, 0, 3}, {0, 4, 4, 0, 4}, {0, 10, tiny, 5, tiny},
	{-1, 10, 4, 3, 1}, {-1, 10, 4, 4, 0}, {-1, 10, 4, 5, 0}, {-1, 10, 4, 1 << 31, 4},
	{0, 10, 0, 5, 0}, {0, 10, minus, 5, 0}, {minus, 10, minus, 5, 0}, {minus, minus, minus, 0, 0}, {0, 10, -4, 0, 0}, {1, 10, -4, 5, 1},
	{1, -5, 3, 2, 0}, {1, 0, 3, 2, 0}, {1, minus, 3, 2, 0}, {1, less, 3, 2, 0}, {1, less, less, 2, 0},
	{less, 10, 10, 0, 0}, {less, 10, 10, 1, 0}, {less, inf, inf, 1, 0}, {less, nan, nan, 1, 0}, {less, nan, 5, 0, 0},
	{1, 10, nan, 0, 0}, {1, 10, nan, 5, 0}, {0, nan, nan, 0, 0},
	{1, nan, 5, 0, 5}, {1, nan, 5, 100, 105}, {huge, nan, 5, 9, inf}, {1, nan, inf, 0, inf}, {0, -nan, 5, 3, 5},
	{1, inf, 5, 100, 105}, {1, inf, inf, 100, inf}, {-1, inf, inf, 100, inf}, {-huge, inf, huge, 2, 0}, {-huge, inf, inf, 1, inf}, {-huge, inf, inf, 2, 0},
	{huge, 10, 0, 2, 10}, {huge, huge, huge, 2, huge}, {huge, inf, huge, 1, inf}, {1, 10, inf, 0, 10}, {1, 10, less, 100, 0},
	{tiny, 10, 0, 1, tiny}, {0.1, 10, 0.2, 1, 0.30000000000000004}, {1, huge, 0x1p53, 1, 0x1p53}, {1, huge, 0x1p53, 3, 0x1p53 + 4},
}

func TestFill(t *testing.T) {
	for _, r := range filled {
		for _, last := range []uint32{0, 1, 1 << 31, math.MaxUint32} {
			g := gauge.Gauge{Level: r.level, Most: r.most, Room: r.room, Last: last}
			want := gauge.Gauge{Level: r.level, Most: r.most, Room: r.want, Last: last + r.n}
			if got := gauge.Fill(g, last+r.n); !same(got, want) {
				t.Errorf("Fill of %v, %d later: %v, not %v", g, r.n, got, want)
			}
		}
	}
}

// The last bits differ where the product isn't rounded ahead of the sum.
func TestFillRoundsTheProductByItself(t *testing.T) {
	differ := 0
	for i := range 1000 {
		level, room, n := float64(i+1)/10, float64(i)/7, uint32(3*i+1)
		product := float64(level * float64(n)) // else this may be rounded but once too
		want := room + product
		if math.FMA(level, float64(n), room) != want {
			differ++
		}
		g := gauge.Fill(gauge.Gauge{Level: level, Most: inf, Room: room}, n)
		if !alike(g.Room, want) {
			t.Errorf("%v and %d times %v: %v, not %v", room, n, level, g.Room, want)
		}
	}
	// 0.1 three times is a little more than 0.3; rounded with the sum alone, the difference would stay.
	g := gauge.Fill(gauge.Gauge{Level: 0.1, Most: inf, Room: -0.30000000000000004}, 3)
	if differ == 0 || g.Room != 0 || math.FMA(0.1, 3, -0.30000000000000004) == 0 {
		t.Error("rounded but once:", differ, g)
	}
}

func TestFillOfAnOpenOneSetsLastAlone(t *testing.T) {
	for _, level := range []float64{nan, -nan, inf} {
		for _, most := range ordered {
			for _, room := range ordered {
				g := gauge.Gauge{Level: level, Most: most, Room: room, Last: 9}
				for _, now := range []uint32{0, 8, 9, 10, 1 << 31, math.MaxUint32} {
					want := g
					want.Last = now
					if got := gauge.Fill(g, now); !same(got, want) {
						t.Errorf("Fill of %v at %d: %v", g, now, got)
					}
					if got, ok := gauge.Take(g, now); !ok || !same(got, want) {
						t.Errorf("Take of %v at %d: %v, %v", g, now, got, ok)
					}
				}
			}
		}
	}
}

func TestTakeIsOfAFilledOne(t *testing.T) {
	for _, r := range filled {
		g := gauge.Gauge{Level: r.level, Most: r.most, Room: r.room, Last: math.MaxUint32}
		want := gauge.Gauge{Level: r.level, Most: r.most, Room: r.want, Last: r.n - 1}
		may := r.want >= 1
		if may {
			want.Room = r.want - 1
		}
		if got, ok := gauge.Take(g, r.n-1); ok != may || !same(got, want) {
			t.Errorf("Take of %v, %d later: %v, %v, not %v, %v", g, r.n, got, ok, want, may)
		}
	}
}

func TestTakeWantsRoomForOne(t *testing.T) {
	rows := []struct {
		room float64
		left float64
		may  bool
	}{
		{1, 0, true}, {math.Nextafter(1, 0), math.Nextafter(1, 0), false}, {math.Nextafter(1, 2), 0x1p-52, true},
		{2, 1, true}, {1.5, 0.5, true}, {0.5, 0.5, false}, {0, 0, false}, {minus, 0, false}, {-1, 0, false},
		{less, 0, false}, {nan, 0, false}, {inf, inf, true}, {0x1p53, 0x1p53 - 1, true}, {0x1p60, 0x1p60, true},
	}
	for _, r := range rows {
		g, ok := gauge.Take(gauge.Gauge{Level: 0, Most: inf, Room: r.room, Last: 4}, 4)
		if ok != r.may || !same(g, gauge.Gauge{Most: inf, Room: r.left, Last: 4}) {
			t.Errorf("Take of Room %v: %v, %v", r.room, g, ok)
		}
	}
}

// taken is the places of the ticks at which a frame may come.
func taken(g gauge.Gauge, at ...uint32) []int {
	var l []int
	for i, now := range at {
		var ok bool
		if g, ok = gauge.Take(g, now); ok {
			l = append(l, i)
		}
	}
	return l
}

func TestTakesBehindEachOther(t *testing.T) {
	rows := []struct {
		name string
		g    gauge.Gauge
		at   []uint32
		want []int
	}{
		{"half a frame a tick", gauge.New(0.5, 1, 0), []uint32{0, 0, 1, 2, 2, 3, 4}, []int{0, 3, 6}},
		{"a tick that comes round", gauge.New(1, 2, math.MaxUint32), []uint32{math.MaxUint32, math.MaxUint32, math.MaxUint32, 0, 0, 2, 2, 2}, []int{0, 1, 3, 5, 6}},
		{"no more than Most at once", gauge.New(5, 3, 0), []uint32{0, 0, 0, 0, 1000, 1000, 1000, 1000}, []int{0, 1, 2, 4, 5, 6}},
		{"a tick back, and there again", gauge.New(1, 5, 10), []uint32{10, 10, 10, 10, 10, 10, 9, 10, 10}, []int{0, 1, 2, 3, 4, 7}},
		{"Most below 1", gauge.New(5, 0.5, 0), []uint32{0, 10, 1000}, nil},
		{"no bound", gauge.Gauge{Level: 2, Most: nan}, []uint32{0, 2, 2, 2, 2, 2}, []int{1, 2, 3, 4}},
		{"Room that is no number, at first", gauge.New(1, nan, 0), []uint32{0, 1, 1, 3, 3, 3}, []int{1, 3, 4}},
	}
	for _, r := range rows {
		if got := taken(r.g, r.at...); !slices.Equal(got, r.want) {
			t.Errorf("%s: %v, not %v", r.name, got, r.want)
		}
	}
}

func TestALevelNotAboveNoughtLetsInButTheRoom(t *testing.T) {
	for _, level := range []float64{0, minus, -tiny, -0.25, -1, -huge, less} {
		for _, most := range []float64{nan, less, -1, minus, 0, 0.5, 1, 2.5, 7, inf} {
			for _, room := range []float64{nan, less, -3, minus, 0, 0.5, math.Nextafter(1, 0), 1, 2.5, 7} {
				bound := 0
				if room >= 1 {
					bound = int(room)
				}
				g, came := gauge.Gauge{Level: level, Most: most, Room: room}, 0
				for i := range uint32(100) {
					var ok bool
					if g, ok = gauge.Take(g, i*i*i<<12); ok {
						came++
					}
				}
				if came > bound || level == 0 && most >= room && came != bound {
					t.Errorf("Level %v, Most %v, Room %v: %d came", level, most, room, came)
				}
			}
		}
	}
}

func TestAnswersHangOnTheFieldsAndTheTickAlone(t *testing.T) {
	for _, r := range filled {
		g := gauge.Gauge{Level: r.level, Most: r.most, Room: r.room, Last: 3}
		kept := g
		first, may := gauge.Take(g, r.n)
		gauge.Take(gauge.New(3, 9, 0), r.n+1)
		second, again := gauge.Take(g, r.n)
		if may != again || !same(first, second) || !same(g, kept) {
			t.Errorf("Take of %v twice: %v, %v; %v, %v", kept, first, may, second, again)
		}
	}
}
