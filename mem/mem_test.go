package mem_test

import (
	"math"
	"testing"

	"patchbay/api"
	"patchbay/mem"
)

func made(t *testing.T, cells, locks int) *mem.Mem {
	t.Helper()
	m, e := mem.New(cells, locks)
	if e != api.OK || m == nil {
		t.Fatalf("New(%d, %d): %v, %d", cells, locks, m, e)
	}
	return m
}

// stands holds a memory against what its cells, its locks' holders and its time should be.
func stands(t *testing.T, name string, m *mem.Mem, cells []uint64, holders []int, time int) {
	t.Helper()
	if m.Cells() != len(cells) || m.Locks() != len(holders) {
		t.Fatalf("%s: %d cells, %d locks", name, m.Cells(), m.Locks())
	}
	for i, v := range cells {
		if got := m.Peek(i); got != v {
			t.Errorf("%s: cell %d: %d, not %d", name, i, got, v)
		}
	}
	for l, who := range holders {
		if got := m.Holder(l); got != who {
			t.Errorf("%s: lock %d: %d's, not %d's", name, l, got, who)
		}
	}
	if m.Time() != time {
		t.Errorf("%s: time %d, not %d", name, m.Time(), time)
	}
}

func TestNewWithinTheLimits(t *testing.T) {
	rows := []struct {
		cells, locks int
		want         api.Errno
	}{
		{1, 0, api.OK}, {1, 1, api.OK}, {2, 1, api.OK}, {7, 127, api.OK}, {7, 128, api.OK}, {7, 129, api.ErrArg},
		{1048575, 3, api.OK}, {1048576, 3, api.OK}, {1048577, 3, api.ErrArg}, {1048576, 128, api.OK},
		{0, 0, api.ErrArg}, {0, 1, api.ErrArg}, {-1, 1, api.ErrArg}, {1, -1, api.ErrArg}, {-1, -1, api.ErrArg},
		{math.MaxInt, 1, api.ErrArg}, {math.MinInt, 1, api.ErrArg}, {1, math.MaxInt, api.ErrArg}, {1, math.MinInt, api.ErrArg},
	}
	for _, r := range rows {
		m, e := mem.New(r.cells, r.locks)
		if e != r.want || (m == nil) != (r.want != api.OK) {
			t.Errorf("New(%d, %d): %v, %d", r.cells, r.locks, m != nil, e)
		}
		if m != nil && (m.Cells() != r.cells || m.Locks() != r.locks || m.Time() != 0) {
			t.Errorf("New(%d, %d): of %d, %d, time %d", r.cells, r.locks, m.Cells(), m.Locks(), m.Time())
		}
	}
}

func TestNewIsOfNoughtsAndFreeLocks(t *testing.T) {
	stands(t, "the least", made(t, 1, 0), []uint64{0}, nil, 0)
	stands(t, "another one", made(t, 3, 2), []uint64{0, 0, 0}, []int{-1, -1}, 0)
	m := made(t, api.MaxCells, api.MaxLocks)
	for i := range m.Cells() {
		if m.Peek(i) != 0 {
			t.Fatal("cell", i, "has", m.Peek(i))
		}
	}
	for l := range m.Locks() {
		if m.Holder(l) != -1 {
			t.Fatal("lock", l, "is", m.Holder(l))
		}
	}
}

func TestACellHasWhatWasStoredLast(t *testing.T) {
	m := made(t, 3, 1)
	if m.Load(1) != 0 {
		t.Error("a new cell isn't 0")
	}
	m.Store(1, 9)
	m.Store(0, math.MaxUint64)
	m.Store(2, 1<<63)
	m.Store(1, 7)
	if m.Load(0) != math.MaxUint64 || m.Load(1) != 7 || m.Load(1) != 7 || m.Load(2) != 1<<63 {
		t.Error(m.Peek(0), m.Peek(1), m.Peek(2))
	}
	stands(t, "stored", m, []uint64{math.MaxUint64, 7, 1 << 63}, []int{-1}, 9)
	m.Store(0, 0)
	m.Store(1, 7)
	stands(t, "stored again", m, []uint64{0, 7, 1 << 63}, []int{-1}, 11)
}

func TestTheFirstAndTheLastOfTheGreatest(t *testing.T) {
	m := made(t, api.MaxCells, api.MaxLocks)
	m.Store(0, 5)
	m.Store(api.MaxCells-1, 6)
	if m.Load(0) != 5 || m.Load(api.MaxCells-1) != 6 || m.Load(1) != 0 || m.Load(api.MaxCells-2) != 0 {
		t.Error("cells at the edges")
	}
	if !m.Take(0, 5) || !m.Take(api.MaxLocks-1, 6) || m.Holder(0) != 5 || m.Holder(api.MaxLocks-1) != 6 || m.Holder(1) != -1 {
		t.Error("locks at the edges")
	}
	if m.Time() != 8 {
		t.Error("time", m.Time())
	}
	m.Store(api.MaxCells, 7)
	if m.Load(api.MaxCells) != 0 || m.Peek(api.MaxCells) != 0 || m.Take(api.MaxLocks, 5) || m.Free(api.MaxLocks, 5) || m.Holder(api.MaxLocks) != -1 || m.Time() != 8 {
		t.Error("behind the last ones, time", m.Time())
	}
}

func TestALockIsOnesAtMost(t *testing.T) {
	const take, free = true, false
	rows := []struct {
		take   bool
		l, who int
		want   bool
		holder int
	}{
		{free, 0, 5, false, -1}, {take, 0, 5, true, 5}, {take, 0, 6, false, 5}, {take, 0, 5, false, 5}, {free, 0, 6, false, 5},
		{take, 1, 6, true, 6}, {take, 0, 6, false, 5}, {free, 1, 5, false, 6}, {free, 0, 5, true, -1}, {free, 0, 5, false, -1},
		{take, 0, 6, true, 6}, {free, 1, 6, true, -1}, {take, 1, 0, true, 0}, {take, 1, 6, false, 0}, {free, 1, 1, false, 0},
		{free, 1, 0, true, -1}, {take, 1, math.MaxInt, true, math.MaxInt}, {take, 1, 0, false, math.MaxInt},
		{free, 1, math.MaxInt - 1, false, math.MaxInt}, {free, 1, math.MaxInt, true, -1}, {free, 0, 6, true, -1},
	}
	m := made(t, 1, 2)
	for i, r := range rows {
		do, name := m.Free, "Free"
		if r.take {
			do, name = m.Take, "Take"
		}
		if got := do(r.l, r.who); got != r.want {
			t.Errorf("number %d: %s(%d, %d): %v", i, name, r.l, r.who, got)
		}
		if got := m.Holder(r.l); got != r.holder {
			t.Errorf("behind number %d: lock %d is %d's, not %d's", i, r.l, got, r.holder)
		}
		if m.Time() != i+1 {
			t.Errorf("behind number %d: time %d", i, m.Time())
		}
	}
}

func TestWhatThereIsntIsNoStep(t *testing.T) {
	m := made(t, 2, 1)
	m.Store(0, 3)
	m.Store(1, 4)
	m.Take(0, 5)
	check := func(name string, holder int) { stands(t, name, m, []uint64{3, 4}, []int{holder}, m.Time()) }
	time := m.Time()
	for _, i := range []int{-1, 2, 3, math.MinInt, math.MaxInt, 1 << 32, -1 << 32} {
		m.Store(i, 9)
		if m.Load(i) != 0 || m.Peek(i) != 0 {
			t.Errorf("cell %d: %d", i, m.Peek(i))
		}
		check("a cell that isn't", 5)
	}
	for _, l := range []int{-1, 1, 2, math.MinInt, math.MaxInt, 1 << 32, -1 << 32} {
		for _, who := range []int{-1, 0, 5} {
			if m.Take(l, who) || m.Free(l, who) || m.Holder(l) != -1 {
				t.Errorf("lock %d, by %d", l, who)
			}
		}
		check("a lock that isn't", 5)
	}
	for _, who := range []int{-1, -2, -5, -6, math.MinInt} {
		if m.Take(0, who) || m.Free(0, who) {
			t.Errorf("the lock of 5, by %d", who)
		}
		check("somebody below 0", 5)
	}
	if m.Time() != time {
		t.Errorf("%d steps of what there isn't", m.Time()-time)
	}
	m.Free(0, 5)
	for _, who := range []int{-1, -2, -5, -6, math.MinInt} {
		if m.Take(0, who) || m.Free(0, who) {
			t.Errorf("a free lock, by %d", who)
		}
		check("somebody below 0", -1)
	}
	if m.Time() != time+1 {
		t.Errorf("%d steps of somebody below 0", m.Time()-time-1)
	}
}

func TestAMemoryWithoutLocks(t *testing.T) {
	m := made(t, 1, 0)
	if m.Take(0, 0) || m.Free(0, 0) || m.Holder(0) != -1 || m.Locks() != 0 || m.Time() != 0 {
		t.Error("a lock of none")
	}
	m.Store(0, 1)
	stands(t, "without locks", m, []uint64{1}, nil, 1)
}

func TestLookingIsNoStep(t *testing.T) {
	m := made(t, 2, 2)
	m.Store(1, 8)
	m.Take(1, 3)
	for range 3 {
		if m.Peek(1) != 8 || m.Peek(0) != 0 || m.Holder(1) != 3 || m.Holder(0) != -1 || m.Cells() != 2 || m.Locks() != 2 || m.Time() != 2 {
			t.Fatal("looked at:", m.Peek(1), m.Holder(1), m.Time())
		}
	}
}

func TestANilMem(t *testing.T) {
	var m *mem.Mem
	m.Store(0, 1)
	if m.Load(0) != 0 || m.Peek(0) != 0 || m.Take(0, 0) || m.Free(0, 0) || m.Holder(0) != -1 || m.Holder(-1) != -1 {
		t.Error("of a nil Mem")
	}
	if m.Time() != 0 || m.Cells() != 0 || m.Locks() != 0 {
		t.Error("a nil Mem's numbers:", m.Time(), m.Cells(), m.Locks())
	}
}

func TestAMemThatNewDidNotMake(t *testing.T) {
	m := &mem.Mem{}
	m.Store(0, 1)
	if m.Load(0) != 0 || m.Take(0, 0) || m.Free(0, 0) || m.Holder(0) != -1 {
		t.Error("it has cells, or locks")
	}
	stands(t, "a zero one", m, nil, nil, 0)
}

func TestMemoriesShareNothing(t *testing.T) {
	a, b := made(t, 2, 1), made(t, 2, 1)
	a.Store(0, 1)
	a.Take(0, 4)
	b.Store(1, 2)
	stands(t, "the first one", a, []uint64{1, 0}, []int{4}, 2)
	stands(t, "the second one", b, []uint64{0, 2}, []int{-1}, 1)
}

// numbers is a rule that mixes well enough to have all calls meet each other.
func numbers(seed uint64) func(below int) int {
	return func(below int) int {
		seed = seed*6364136223846793005 + 1442695040888963407
		return int(seed >> 33 % uint64(below))
	}
}

// plain is a memory as the chapter tells it, in maps.
type plain struct {
	cells   map[int]uint64
	holders map[int]int
	time    int
}

func (p *plain) take(l, who int) bool {
	p.time++
	if _, held := p.holders[l]; held {
		return false
	}
	p.holders[l] = who
	return true
}

func (p *plain) free(l, who int) bool {
	p.time++
	if have, held := p.holders[l]; !held || have != who {
		return false
	}
	delete(p.holders, l)
	return true
}

func TestManyCallsAnswerAsAPlainMemory(t *testing.T) {
	const cells, locks, many = 3, 2, 4
	for seed := range uint64(20) {
		m, number := made(t, cells, locks), numbers(seed)
		p := plain{cells: map[int]uint64{}, holders: map[int]int{}}
		for n := range 500 {
			// One beyond each edge is among these, too.
			i, l, who, v := number(cells+2)-1, number(locks+2)-1, number(many+1)-1, uint64(number(1<<20))
			isCell, isLock := i >= 0 && i < cells, l >= 0 && l < locks && who >= 0
			switch number(4) {
			case 0:
				if isCell {
					p.time++
				}
				if got := m.Load(i); got != p.cells[i] {
					t.Fatalf("seed %d, number %d: Load(%d): %d, not %d", seed, n, i, got, p.cells[i])
				}
			case 1:
				m.Store(i, v)
				if isCell {
					p.time++
					p.cells[i] = v
				}
			case 2:
				if want := isLock && p.take(l, who); m.Take(l, who) != want {
					t.Fatalf("seed %d, number %d: Take(%d, %d): not %v", seed, n, l, who, want)
				}
			case 3:
				if want := isLock && p.free(l, who); m.Free(l, who) != want {
					t.Fatalf("seed %d, number %d: Free(%d, %d): not %v", seed, n, l, who, want)
				}
			}
			var holders []int
			for l := range locks {
				if who, held := p.holders[l]; held {
					holders = append(holders, who)
				} else {
					holders = append(holders, -1)
				}
			}
			stands(t, "among many calls", m, []uint64{p.cells[0], p.cells[1], p.cells[2]}, holders, p.time)
			if t.Failed() {
				t.Fatalf("seed %d, number %d", seed, n)
			}
		}
	}
}
