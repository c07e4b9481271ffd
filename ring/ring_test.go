package ring_test

import (
	"math"
	"slices"
	"testing"

	"patchbay/api"
	"patchbay/mem"
	"patchbay/ring"
	"patchbay/turn"
)

// maxSteps: an act is over within so many.
const maxSteps = 8

// before and behind are how many cells of somebody else's are on each side of a world's ring.
const (
	before = 3
	behind = 2
)

// starts are numbers from which counters begin: some come round within a few numbers, or leave what is positive.
var starts = []uint64{0, 1, 7, 1<<32 - 2, 1<<63 - 2, 1 << 63, 1<<64 - 5, 1<<64 - 2, 1<<64 - 1}

// world is a ring, one who puts 1, 2, 3 and so on into it, one who takes, and the plain queue that it should be.
type world struct {
	t     *testing.T
	m     *mem.Mem
	r     *ring.Ring
	size  int
	queue []uint64

	push, pop    *ring.Act
	pushed, took int // Steps of the acts under way
	next         uint64
	full, empty  int // how often it was found so
	mark         int // of the act that was over last
}

func newWorld(t *testing.T, size int, start uint64) *world {
	w := &world{t: t, size: size, next: 1}
	cells := before + ring.Cells(size) + behind
	w.m, _ = mem.New(cells, 0)
	for i := range cells {
		w.m.Store(i, foreign(i))
	}
	w.mark = w.m.Time()
	var e api.Errno
	w.r, e = ring.New(w.m, before, size, start)
	if e != api.OK {
		t.Fatal("New", size, start, e)
	}
	return w
}

// foreign is what stood in a cell ahead of the ring.
func foreign(i int) uint64 { return math.MaxUint64/3 - uint64(i) }

// stepPush goes on with a Push, and begins one if none is under way.
func (w *world) stepPush() {
	if w.push == nil {
		w.push = w.r.Push(w.next)
		w.pushed = 0
		w.isUnderWay("Push", w.push)
	}
	w.pushed++
	if !w.step("Push", w.push, w.pushed) {
		return
	}
	room := len(w.queue) < w.size
	value := uint64(0)
	if room {
		w.queue = append(w.queue, w.next)
		value = w.next
	} else {
		w.full++
	}
	w.isOver("Push", w.push, room, value)
	w.push = nil
	w.next++
}

// stepPop does so with a Pop.
func (w *world) stepPop() {
	if w.pop == nil {
		w.pop = w.r.Pop()
		w.took = 0
		w.isUnderWay("Pop", w.pop)
	}
	w.took++
	if !w.step("Pop", w.pop, w.took) {
		return
	}
	is := len(w.queue) > 0
	value := uint64(0)
	if is {
		value = w.queue[0]
		w.queue = w.queue[1:]
	} else {
		w.empty++
	}
	w.isOver("Pop", w.pop, is, value)
	w.pop = nil
}

// step makes one Step, that is one step of the memory (nothing is read without one), and tells whether the act is over by it.
func (w *world) step(name string, a *ring.Act, steps int) bool {
	was := w.m.Time()
	over := a.Step()
	if w.m.Time() != was+1 {
		w.t.Fatal(name, "made", w.m.Time()-was, "steps of the memory")
	}
	if over != a.Over() {
		w.t.Fatal(name, "Step answers", over, "Over", a.Over())
	}
	if over {
		return true
	}
	w.isUnderWay(name, a)
	if steps >= maxSteps {
		w.t.Fatal(name, "isn't over after", steps, "Steps")
	}
	return false
}

func (w *world) isUnderWay(name string, a *ring.Act) {
	if a == nil {
		w.t.Fatal(name, "can't be begun, and none is under way")
	}
	if a.Over() || a.Mark() != 0 || a.Ok() || a.Value() != 0 {
		w.t.Fatal(name, "under way tells", a.Over(), a.Mark(), a.Ok(), a.Value())
	}
	if name == "Push" && w.r.Push(99) != nil || name == "Pop" && w.r.Pop() != nil {
		w.t.Fatal("two of", name, "are under way")
	}
}

// isOver holds an act that this Step ended against what the queue says: it took effect just now.
func (w *world) isOver(name string, a *ring.Act, ok bool, value uint64) {
	if a.Ok() != ok || a.Value() != value {
		w.t.Fatal(name, "of", value, ok, "tells", a.Value(), a.Ok())
	}
	if a.Mark() != w.m.Time() || a.Mark() <= w.mark {
		w.t.Fatal(name, "has Mark", a.Mark(), "at", w.m.Time(), "behind", w.mark)
	}
	w.mark = a.Mark()
	if !a.Step() || !a.Over() || w.m.Time() != w.mark || a.Mark() != w.mark || a.Ok() != ok || a.Value() != value {
		w.t.Fatal(name, "goes on when it is over")
	}
}

// isQueue: what waits is what waits in the queue, and looking is no step.
func (w *world) isQueue() {
	was := w.m.Time()
	n, l := w.r.Len(), w.r.List()
	if n != len(w.queue) || !slices.Equal(l, w.queue) {
		w.t.Fatal("waiting are", n, l, "not", w.queue)
	}
	if w.r.Size() != w.size || w.m.Time() != was {
		w.t.Fatal("Size", w.r.Size(), "or a look made steps:", w.m.Time()-was)
	}
}

// keepsApart: no cell outside of the ring's was changed.
func (w *world) keepsApart() {
	for i := range w.m.Cells() {
		inside := i >= before && i < before+w.size+2
		if !inside && w.m.Peek(i) != foreign(i) {
			w.t.Fatal("cell", i, "was changed")
		}
	}
}

// pick: 0 is who puts, 1 who takes.
func (w *world) pick(who int) {
	if who == 0 {
		w.stepPush()
	} else {
		w.stepPop()
	}
	w.isQueue()
}

func (w *world) putAll(n int) {
	for range n {
		w.stepPush()
		for w.push != nil {
			w.stepPush()
		}
	}
}

func (w *world) takeAll(n int) {
	for range n {
		w.stepPop()
		for w.pop != nil {
			w.stepPop()
		}
	}
}

func TestCells(t *testing.T) {
	for size := -3; size <= 70; size++ {
		want := 0
		if size >= 1 && size <= 64 {
			want = size + 2
		}
		if n := ring.Cells(size); n != want {
			t.Error(size, n)
		}
	}
	for _, size := range []int{math.MinInt, math.MaxInt, math.MaxInt - 1} {
		if n := ring.Cells(size); n != 0 {
			t.Error(size, n)
		}
	}
}

func TestNew(t *testing.T) {
	m, _ := mem.New(70, 0)
	for _, c := range []struct {
		m          *mem.Mem
		base, size int
		e          api.Errno
	}{
		{m, 0, 1, api.OK}, {m, 0, 64, api.OK}, {m, 4, 64, api.OK}, {m, 67, 1, api.OK}, {m, 66, 2, api.OK},
		{m, 5, 64, api.ErrArg}, {m, 68, 1, api.ErrArg}, {m, 67, 2, api.ErrArg}, {m, 70, 1, api.ErrArg}, {m, 71, 1, api.ErrArg},
		{m, 0, 0, api.ErrArg}, {m, 0, 65, api.ErrArg}, {m, 0, -1, api.ErrArg}, {m, 0, -2, api.ErrArg},
		{m, 0, math.MaxInt, api.ErrArg}, {m, 0, math.MinInt, api.ErrArg},
		{m, -1, 1, api.ErrArg}, {m, -3, 1, api.ErrArg}, {m, math.MaxInt, 1, api.ErrArg}, {m, math.MaxInt - 2, 1, api.ErrArg}, {m, math.MinInt, 1, api.ErrArg},
		{nil, 0, 1, api.ErrArg}, {&mem.Mem{}, 0, 1, api.ErrArg}, {nil, -1, 0, api.ErrArg},
	} {
		for _, start := range starts {
			was := c.m.Time()
			r, e := ring.New(c.m, c.base, c.size, start)
			if e != c.e || (r != nil) != (e == api.OK) {
				t.Fatal(c.base, c.size, start, r, e)
			}
			if e != api.OK && c.m.Time() != was {
				t.Fatal(c.base, c.size, "an error made steps")
			}
			if e == api.OK && (r.Size() != c.size || r.Len() != 0 || len(r.List()) != 0) {
				t.Fatal(c.base, c.size, start, r.Size(), r.Len(), r.List())
			}
		}
	}
}

// A memory of just so many cells as it needs is enough, for each size.
func TestNewFits(t *testing.T) {
	for size := 1; size <= 64; size++ {
		m, _ := mem.New(size+2, 0)
		r, e := ring.New(m, 0, size, 0)
		if e != api.OK || r.Size() != size {
			t.Error(size, e)
		}
		less, _ := mem.New(size+1, 0)
		if r, e := ring.New(less, 0, size, 0); r != nil || e != api.ErrArg {
			t.Error(size, e)
		}
	}
}

func TestNil(t *testing.T) {
	for _, r := range []*ring.Ring{nil, {}} {
		if r.Push(1) != nil || r.Pop() != nil || r.Size() != 0 || r.Len() != 0 || len(r.List()) != 0 {
			t.Error("a nil Ring")
		}
	}
	for _, a := range []*ring.Act{nil, {}} {
		if !a.Step() || !a.Over() || a.Mark() != 0 || a.Ok() || a.Value() != 0 {
			t.Error("a nil Act")
		}
	}
}

// The chapter's example.
func TestExample(t *testing.T) {
	m, _ := mem.New(ring.Cells(1), 0)
	r, _ := ring.New(m, 0, 1, 0)
	for _, c := range []struct {
		a     *ring.Act
		ok    bool
		value uint64
	}{{run(r.Push(5)), true, 5}, {run(r.Push(6)), false, 0}, {run(r.Pop()), true, 5}, {run(r.Pop()), false, 0}} {
		if !c.a.Over() || c.a.Ok() != c.ok || c.a.Value() != c.value || c.a.Mark() == 0 {
			t.Error(c, c.a.Ok(), c.a.Value(), c.a.Mark())
		}
	}
}

func run(a *ring.Act) *ring.Act {
	for range maxSteps {
		if a.Step() {
			break
		}
	}
	return a
}

// One thing behind the other: filled beyond its room, emptied beyond its numbers, half of both, for each size.
func TestOneBehindTheOther(t *testing.T) {
	for size := 1; size <= 64; size++ {
		for _, start := range starts {
			w := newWorld(t, size, start)
			for range 3 {
				w.putAll(size + 2)
				w.isQueue()
				w.takeAll(size/2 + 1)
				w.isQueue()
				w.putAll(size)
				w.isQueue()
				w.takeAll(size + 2)
				w.isQueue()
			}
			w.keepsApart()
			if w.full == 0 || w.empty == 0 {
				t.Fatal(size, start, "was never full, or never empty")
			}
		}
	}
}

// Any number may be put, 0 too.
func TestAnyNumber(t *testing.T) {
	m, _ := mem.New(ring.Cells(4), 0)
	r, _ := ring.New(m, 0, 4, 3)
	numbers := []uint64{0, math.MaxUint64, 1 << 63, 0}
	for _, v := range numbers {
		if a := run(r.Push(v)); !a.Ok() || a.Value() != v {
			t.Error(v, a.Ok(), a.Value())
		}
	}
	if l := r.List(); !slices.Equal(l, numbers) {
		t.Error(l)
	}
	for _, v := range numbers {
		if a := run(r.Pop()); !a.Ok() || a.Value() != v {
			t.Error(v, a.Ok(), a.Value())
		}
	}
}

// All ways of so many picks, from an empty ring, from one with one number and from a full one.
func TestAllWays(t *testing.T) {
	const picks = 13
	for size := 1; size <= 3; size++ {
		for _, start := range []uint64{0, 1<<64 - 2, 1<<64 - 1} {
			for _, first := range []int{0, 1, size} {
				for way := range 1 << picks {
					w := newWorld(t, size, start)
					w.putAll(first)
					for i := range picks {
						w.pick(way >> i & 1)
					}
				}
			}
		}
	}
}

// Many picks, mixed and in bursts.
func TestManyPicks(t *testing.T) {
	for _, size := range []int{1, 2, 3, 4, 5, 7, 8, 31, 33, 63, 64} {
		for i, start := range starts {
			seed := uint64(100*size + i)
			for _, turns := range [][]int{turn.Round(2, 2000), turn.Mixed(2, 4000, seed), turn.Bursts(2, 4000, 9, seed), turn.Bursts(2, 8000, 300, seed)} {
				w := newWorld(t, size, start)
				for _, who := range turns {
					w.pick(who)
				}
				w.keepsApart()
			}
		}
	}
}

// One stands still behind each of its steps, while the other one does as much as it can: it waits for nobody.
func TestStandsStill(t *testing.T) {
	for _, size := range []int{1, 2, 3, 5, 64} {
		for _, start := range starts {
			for _, first := range []int{0, 1, size / 2, size - 1, size} {
				for steps := 1; steps < maxSteps; steps++ {
					standsStill(newWorld(t, size, start), first, steps, 0)
					standsStill(newWorld(t, size, start), first, steps, 1)
				}
			}
		}
	}
}

// standsStill: who makes so many steps of one act, if it takes so many; the other one goes on alone; then all ends.
func standsStill(w *world, first, steps, who int) {
	w.putAll(first)
	for range steps {
		w.pick(who)
		if w.push == nil && w.pop == nil {
			break
		}
	}
	for range 2 * maxSteps * (w.size + 1) {
		w.pick(1 - who)
	}
	w.putAll(1)
	w.takeAll(w.size + 1)
	w.isQueue()
}

// Two rings side by side in one memory don't meet.
func TestSideBySide(t *testing.T) {
	m, _ := mem.New(ring.Cells(2)+ring.Cells(3), 0)
	a, _ := ring.New(m, 0, 2, 5)
	b, _ := ring.New(m, ring.Cells(2), 3, 9)
	for i := range uint64(4) {
		run(a.Push(10 + i))
		run(b.Push(20 + i))
	}
	if l := a.List(); !slices.Equal(l, []uint64{10, 11}) {
		t.Error(l)
	}
	if l := b.List(); !slices.Equal(l, []uint64{20, 21, 22}) {
		t.Error(l)
	}
	x, y := a.Pop(), b.Pop()
	for range maxSteps {
		x.Step()
		y.Step()
	}
	if x.Value() != 10 || y.Value() != 20 {
		t.Error(x.Value(), y.Value())
	}
}

// A New over cells of a ring that was begins with none waiting.
func TestAgain(t *testing.T) {
	m, _ := mem.New(ring.Cells(2), 0)
	r, _ := ring.New(m, 0, 2, 0)
	run(r.Push(1))
	for _, start := range starts {
		r, e := ring.New(m, 0, 2, start)
		if e != api.OK || r.Len() != 0 || run(r.Pop()).Ok() {
			t.Error(start, e, r.Len())
		}
		run(r.Push(2))
	}
}

// An act that is begun, and makes no Step, changes nothing.
func TestBegunAlone(t *testing.T) {
	w := newWorld(t, 2, 0)
	w.putAll(1)
	was := w.m.Time()
	push, pop := w.r.Push(9), w.r.Pop()
	w.isUnderWay("Push", push)
	w.isUnderWay("Pop", pop)
	w.isQueue()
	if w.m.Time() != was {
		t.Error("it made steps:", w.m.Time()-was)
	}
}

// Answers are new memory.
func TestNewMemory(t *testing.T) {
	w := newWorld(t, 5, 1<<64-2)
	w.putAll(4)
	l := w.r.List()
	for i := range l {
		l[i] = 77
	}
	_ = append(l, 78)
	w.isQueue()
	w.takeAll(1)
	w.isQueue()
	if l[0] != 77 || l[3] != 77 {
		t.Error(l)
	}
}

// Whatever somebody writes into its cells, who asks is answered.
func TestSpoiltCells(t *testing.T) {
	for _, v := range []uint64{0, 1, 6, 1 << 62, 1 << 63, math.MaxUint64} {
		for at := range ring.Cells(3) {
			m, _ := mem.New(ring.Cells(3), 0)
			r, _ := ring.New(m, 0, 3, 5)
			run(r.Push(1))
			m.Store(at, v)
			if n := r.Len(); n < 0 || n > 3 || len(r.List()) != n {
				t.Error(at, v, n)
			}
			if !run(r.Push(2)).Over() || !run(r.Pop()).Over() {
				t.Error(at, v, "isn't over")
			}
		}
	}
}
