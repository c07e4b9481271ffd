package ticks_test

import (
	"math"
	"slices"
	"testing"

	"patchbay/ticks"
)

const (
	most = math.MaxUint32
	half = 1 << 31
)

// moments are ticks at all edges: about 0, about half the way round, about the greatest.
var moments = []uint32{0, 1, 2, 5, 300, 1 << 16, half - 2, half - 1, half, half + 1, half + 300, most - 300, most - 1, most}

func TestAddComesRound(t *testing.T) {
	rows := []struct{ t, by, want uint32 }{
		{0, 0, 0}, {7, 0, 7}, {0, 7, 7}, {5, 6, 11}, {most, 0, most}, {most, 1, 0}, {most, 2, 1}, {1, most, 0},
		{4294967290, 11, 5}, {half, half, 0}, {half - 1, 1, half}, {most, most, most - 1},
	}
	for _, r := range rows {
		if got := ticks.Add(r.t, r.by); got != r.want {
			t.Errorf("Add(%d, %d): %d, not %d", r.t, r.by, got, r.want)
		}
	}
}

func TestAge(t *testing.T) {
	rows := []struct{ now, t, want uint32 }{
		{0, 0, 0}, {9, 9, 0}, {most, most, 0}, {9, 3, 6}, {5, 4294967290, 11}, {0, most, 1},
		{5, 6, 0}, {0, 1, 0}, {most, 0, 0}, {3, 9, 0}, {most, 1, 0},
		{half - 1, 0, half - 1}, {half, 0, 0}, {half + 1, 0, 0}, {half, 1, half - 1}, {half + 1, 1, 0},
		{0, half + 1, half - 1}, {0, half, 0}, {0, half - 1, 0}, {most, half, half - 1}, {most, half - 1, 0},
	}
	for _, r := range rows {
		if got := ticks.Age(r.now, r.t); got != r.want {
			t.Errorf("Age(%d, %d): %d, not %d", r.now, r.t, got, r.want)
		}
	}
	for _, at := range moments {
		for _, by := range moments {
			want := by
			if by >= half {
				want = 0
			}
			if got := ticks.Age(ticks.Add(at, by), at); got != want {
				t.Errorf("the Age of %d, %d later: %d", at, by, got)
			}
		}
	}
}

func TestOldIsAboveTheLimit(t *testing.T) {
	rows := []struct {
		now, t, limit uint32
		want          bool
	}{
		{9, 3, 5, true}, {9, 3, 6, false}, {9, 3, 7, false}, {9, 9, 0, false}, {9, 8, 0, true},
		{5, 4294967290, 10, true}, {5, 4294967290, 11, false}, {3, 9, 0, false}, {half, 0, 0, false},
		{half - 1, 0, half - 2, true}, {half - 1, 0, half - 1, false}, {half - 1, 0, half, false}, {half - 1, 0, most, false},
	}
	for _, r := range rows {
		if got := ticks.Old(r.now, r.t, r.limit); got != r.want {
			t.Errorf("Old(%d, %d, %d): %v", r.now, r.t, r.limit, got)
		}
	}
}

func TestLimit(t *testing.T) {
	rows := []struct {
		normal, short uint32
		changed       bool
		want          uint32
	}{
		{300, 15, true, 15}, {300, 15, false, 300}, {10, 15, true, 10}, {10, 15, false, 10}, {15, 15, true, 15},
		{0, 15, true, 0}, {300, 0, true, 0}, {300, 0, false, 300}, {most, half, true, half}, {half, most, true, half},
		{1, most, true, 1}, {most, 1, true, 1}, {most, most, false, most},
	}
	for _, r := range rows {
		if got := ticks.Limit(r.normal, r.short, r.changed); got != r.want {
			t.Errorf("Limit(%d, %d, %v): %d, not %d", r.normal, r.short, r.changed, got, r.want)
		}
	}
}

func TestOldest(t *testing.T) {
	rows := []struct {
		now  uint32
		l    []uint32
		want int
	}{
		{9, nil, -1}, {9, []uint32{}, -1}, {9, []uint32{9}, 0}, {9, []uint32{20}, 0}, {9, []uint32{3, 1, 1, 8}, 1},
		{9, []uint32{1, 1, 1}, 0}, {9, []uint32{8, 7, 6}, 2}, {9, []uint32{6, 7, 8}, 0},
		{9, []uint32{10, 11, 9}, 0}, {9, []uint32{10, 9, 8}, 2}, {9, []uint32{10, 8, 7, 20}, 2},
		{5, []uint32{0, 4294967290, 3}, 1}, {5, []uint32{most, 0, 4294967290}, 2},
		{0, []uint32{half, half + 1}, 1}, {half, []uint32{0, 1}, 1}, {half, []uint32{1, 0}, 0}, {half, []uint32{0, half}, 0},
	}
	for _, r := range rows {
		if got := ticks.Oldest(r.now, r.l); got != r.want {
			t.Errorf("Oldest(%d, %v): %d, not %d", r.now, r.l, got, r.want)
		}
	}
}

func TestSoMuchLaterAllIsTheSame(t *testing.T) {
	for _, now := range moments {
		first := ticks.Oldest(now, moments)
		for _, by := range moments {
			later := ticks.Add(now, by)
			var l []uint32
			for _, m := range moments {
				n := ticks.Add(m, by)
				l = append(l, n)
				if ticks.Age(now, m) != ticks.Age(later, n) {
					t.Errorf("Age(%d, %d), and %d later: %d, %d", now, m, by, ticks.Age(now, m), ticks.Age(later, n))
				}
				for _, limit := range moments {
					if ticks.Old(now, m, limit) != ticks.Old(later, n, limit) {
						t.Errorf("Old(%d, %d, %d) isn't as %d later", now, m, limit, by)
					}
				}
			}
			if got := ticks.Oldest(later, l); got != first {
				t.Errorf("Oldest at %d: %d; %d later: %d", now, first, by, got)
			}
		}
	}
}

func TestOldestLeavesItsListAsItIs(t *testing.T) {
	room := []uint32{3, 1, 4, 1, 5, 9, 2, 6}
	before := slices.Clone(room)
	for n := range len(room) + 1 {
		first := ticks.Oldest(5, room[:n])
		if second := ticks.Oldest(5, room[:n]); second != first {
			t.Errorf("of %d: %d, then %d", n, first, second)
		}
		if !slices.Equal(room, before) {
			t.Fatal("the list changed:", room)
		}
	}
	l := []uint32{3, 1}
	ticks.Oldest(5, l)
	l[0] = 0
	if got := ticks.Oldest(5, l); got != 0 {
		t.Error("of a list that was changed from outside:", got)
	}
}
