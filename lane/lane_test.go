package lane_test

import (
	"slices"
	"testing"

	"patchbay/api"
	"patchbay/lane"
	"patchbay/mem"
	"patchbay/ring"
	"patchbay/turn"
)

// maxSteps: a taking is over within so many for each ring.
const maxSteps = 8

// world is a lane of rings, one who puts numbers into each, and the plain queues that the rings are.
type world struct {
	t      *testing.T
	m      *mem.Mem
	rings  []*ring.Ring
	l      *lane.Lane
	queues [][]uint64
	pushes []*ring.Act
	next   uint64

	a       *lane.Act
	steps   int
	cursor  int    // where the lane should look first
	had     []bool // since the taking began: had each ring a number at all times?
	missed  []int  // how many takings in a row a ring had so, and wasn't taken from
	last    *lane.Act
	mark    int // the last one's
	takings int
	none    int
}

func newWorld(t *testing.T, n, size int) *world {
	w := &world{t: t, next: 1}
	w.m, _ = mem.New(n*ring.Cells(size), 0)
	for i := range n {
		r, e := ring.New(w.m, i*ring.Cells(size), size, uint64(i)-3)
		if e != api.OK {
			t.Fatal(e)
		}
		w.rings = append(w.rings, r)
	}
	w.queues = make([][]uint64, n)
	w.pushes = make([]*ring.Act, n)
	w.missed = make([]int, n)
	w.had = make([]bool, n)
	var e api.Errno
	w.l, e = lane.New(w.rings)
	if e != api.OK {
		t.Fatal(e)
	}
	return w
}

// put goes on with a Push into a ring, and begins one if none is under way.
func (w *world) put(i int) {
	if w.pushes[i] == nil {
		w.pushes[i] = w.rings[i].Push(w.next)
		w.next++
	}
	p := w.pushes[i]
	if !p.Step() {
		return
	}
	if p.Ok() {
		w.queues[i] = append(w.queues[i], p.Value())
	}
	w.pushes[i] = nil
}

func (w *world) putWhole(i int) {
	for range maxSteps {
		w.put(i)
		if w.pushes[i] == nil {
			return
		}
	}
	w.t.Fatal("a Push isn't over")
}

// take goes on with a taking, and begins one if none is under way.
func (w *world) take() {
	if w.a == nil {
		w.begin()
	}
	for i, q := range w.queues {
		w.had[i] = w.had[i] && len(q) > 0
	}
	was, waited := w.m.Time(), w.l.Len()
	over := w.a.Step()
	w.steps++
	if w.m.Time() != was+1 {
		w.t.Fatal("a Step made", w.m.Time()-was, "steps of the memory")
	}
	if over != w.a.Over() {
		w.t.Fatal("Step answers", over, "Over", w.a.Over())
	}
	if over {
		w.ends(waited)
		return
	}
	w.isUnderWay()
	if w.steps >= maxSteps*len(w.rings) {
		w.t.Fatal("it isn't over after", w.steps, "Steps")
	}
}

func (w *world) begin() {
	was := w.m.Time()
	w.a = w.l.Next()
	w.steps = 0
	for i, q := range w.queues {
		w.had[i] = len(q) > 0
	}
	if w.a == nil || w.m.Time() != was {
		w.t.Fatal("Next answers nil, and nothing is under way, or makes steps")
	}
	w.isUnderWay()
}

func (w *world) isUnderWay() {
	a := w.a
	if a.Over() || a.Mark() != 0 || a.Ok() || a.Value() != 0 || a.From() != -1 {
		w.t.Fatal("under way it tells", a.Over(), a.Mark(), a.Ok(), a.Value(), a.From())
	}
	if w.l.Next() != nil {
		w.t.Fatal("two are under way")
	}
}

// ends holds a taking that this Step ended against the queues: it took effect just now.
func (w *world) ends(waited int) {
	a := w.a
	w.a, w.last = nil, a
	w.takings++
	if a.Mark() != w.m.Time() || a.Mark() <= w.mark {
		w.t.Fatal("Mark is", a.Mark(), "at", w.m.Time(), "behind", w.mark)
	}
	w.mark = a.Mark()
	from, value := a.From(), a.Value()
	if a.Ok() {
		w.took(from, value)
		waited--
	} else {
		w.tookNone(from, value)
	}
	if w.l.Len() != waited {
		w.t.Fatal("waiting are", w.l.Len(), "not", waited)
	}
	if !a.Step() || w.m.Time() != w.mark || a.From() != from || a.Value() != value || a.Mark() != w.mark {
		w.t.Fatal("it goes on when it is over")
	}
}

// took: the ring's first number, and from no ring behind one that had a number all the time.
func (w *world) took(from int, value uint64) {
	if from < 0 || from >= len(w.rings) || len(w.queues[from]) == 0 || w.queues[from][0] != value {
		w.t.Fatal("took", value, "from", from, "of", w.queues)
	}
	w.queues[from] = w.queues[from][1:]
	for i := w.cursor; i != from; i = (i + 1) % len(w.rings) {
		if w.had[i] {
			w.t.Fatal("ring", i, "had a number, and", from, "was taken from; the cursor was at", w.cursor)
		}
	}
	w.cursor = (from + 1) % len(w.rings)
	for i := range w.missed {
		w.missed[i]++
		if i == from || !w.had[i] {
			w.missed[i] = 0
		}
		if w.missed[i] >= len(w.rings) {
			w.t.Fatal("ring", i, "waits too long")
		}
	}
}

func (w *world) tookNone(from int, value uint64) {
	w.none++
	if from != -1 || value != 0 {
		w.t.Fatal("took none, and tells", from, value)
	}
	for i := range w.had {
		w.missed[i] = 0
		if w.had[i] {
			w.t.Fatal("took none, and ring", i, "had a number all the time")
		}
	}
}

func (w *world) takeWhole() {
	w.take()
	for w.a != nil {
		w.take()
	}
}

// pick: the last one takes, each other one puts.
func (w *world) pick(who int) {
	if who == len(w.rings) {
		w.take()
	} else {
		w.put(who)
	}
	was, n := w.m.Time(), 0
	for _, q := range w.queues {
		n += len(q)
	}
	if w.l.Len() != n || w.m.Time() != was {
		w.t.Fatal("Len is", w.l.Len(), "not", n, "or it made steps")
	}
}

func rings(n int) []*ring.Ring {
	m, _ := mem.New(max(n, 1)*ring.Cells(1), 0)
	var l []*ring.Ring
	for i := range n {
		r, _ := ring.New(m, i*ring.Cells(1), 1, 0)
		l = append(l, r)
	}
	return l
}

func TestNew(t *testing.T) {
	for _, n := range []int{1, 2, 3, 63, 64} {
		if l, e := lane.New(rings(n)); l == nil || e != api.OK || l.Len() != 0 {
			t.Error(n, e)
		}
	}
	for _, n := range []int{0, 65, 66, 200} {
		if l, e := lane.New(rings(n)); l != nil || e != api.ErrArg {
			t.Error(n, e)
		}
	}
	if l, e := lane.New([]*ring.Ring{}); l != nil || e != api.ErrArg {
		t.Error(e)
	}
	for i := range 64 {
		for _, bad := range []*ring.Ring{nil, {}} {
			r := rings(64)
			r[i] = bad
			if l, e := lane.New(r); l != nil || e != api.ErrArg {
				t.Error(i, e)
			}
			if l, e := lane.New(r[i : i+1]); l != nil || e != api.ErrArg {
				t.Error(i, e)
			}
		}
	}
}

func TestNil(t *testing.T) {
	for _, l := range []*lane.Lane{nil, {}} {
		if l.Next() != nil || l.Len() != 0 {
			t.Error("a nil Lane")
		}
	}
	for _, a := range []*lane.Act{nil, {}} {
		if !a.Step() || !a.Over() || a.Mark() != 0 || a.Ok() || a.Value() != 0 || a.From() != -1 {
			t.Error("a nil Act")
		}
	}
}

// The chapter's example.
func TestExample(t *testing.T) {
	w := newWorld(t, 3, 4)
	w.putWhole(0)
	w.putWhole(0)
	w.putWhole(2)
	for _, c := range []struct {
		value uint64
		from  int
	}{{1, 0}, {3, 2}, {2, 0}, {0, -1}} {
		a := run(w.l.Next(), 3)
		if a.Ok() != (c.from >= 0) || a.Value() != c.value || a.From() != c.from || a.Mark() == 0 {
			t.Error(c, a.Ok(), a.Value(), a.From())
		}
	}
}

func run(a *lane.Act, rings int) *lane.Act {
	for range maxSteps * rings {
		if a.Step() {
			break
		}
	}
	return a
}

// One thing behind the other: which ring is next is told by the cursor, and the numbers that wait, alone.
func TestOneBehindTheOther(t *testing.T) {
	for _, n := range []int{1, 2, 3, 5, 64} {
		w := newWorld(t, n, 3)
		for i, who := range turn.Bursts(n+1, 2000, 12, uint64(n)) {
			if who < n {
				w.putWhole(who)
				continue
			}
			want := -1
			for j := range n {
				if p := (w.cursor + j) % n; len(w.queues[p]) > 0 {
					want = p
					break
				}
			}
			w.takeWhole()
			if w.last.From() != want {
				t.Fatal(n, i, "took from", w.last.From(), "not", want)
			}
		}
	}
}

// If no ring has a number each was looked at once, and the cursor stays: also where it isn't at ring 0.
func TestNone(t *testing.T) {
	for n := 1; n <= 64; n++ {
		w := newWorld(t, n, 1)
		w.takeWhole()
		one := w.steps
		for at := range n {
			w.putWhole(at)
			w.takeWhole()
			for range 2 {
				w.takeWhole()
				if w.steps != one {
					t.Fatal(n, at, "took", w.steps, "Steps, not", one)
				}
			}
			cursor := (at + 1) % n
			for i := range n {
				w.putWhole(i)
			}
			w.takeWhole()
			if len(w.queues[cursor]) != 0 {
				t.Fatal(n, at, "the cursor didn't stay")
			}
			for range n - 1 {
				w.takeWhole()
			}
			// The cursor is behind the last one that was taken from: once round.
			if w.cursor != cursor || w.l.Len() != 0 {
				t.Fatal(n, at, w.cursor, w.l.Len())
			}
		}
	}
}

// Steps are those of Pops, one behind the other: so many as the Pops of the same rings by themselves.
func TestSteps(t *testing.T) {
	w, alone := newWorld(t, 3, 2), newWorld(t, 3, 2)
	w.putWhole(2)
	alone.putWhole(2)
	w.takeWhole()
	steps := 0
	for i := range 3 {
		a := alone.rings[i].Pop()
		for range maxSteps {
			steps++
			if a.Step() {
				break
			}
		}
	}
	if w.steps != steps {
		t.Error(w.steps, steps)
	}
}

// All ways of so many picks of one who takes and two who put.
func TestAllWays(t *testing.T) {
	const picks = 9
	for _, size := range []int{1, 2} {
		for first := range 4 {
			for way := range 19683 { // 3 to the 9th
				w := newWorld(t, 2, size)
				for i := range 2 {
					if first>>i&1 == 1 {
						w.putWhole(i)
					}
				}
				for range picks {
					w.pick(way % 3)
					way /= 3
				}
			}
		}
	}
}

// Many picks, in turn, mixed and in bursts; those who put are now many, now one.
func TestManyPicks(t *testing.T) {
	for _, n := range []int{1, 2, 3, 4, 7, 64} {
		for _, size := range []int{1, 2, 5, 64} {
			for seed := range uint64(4) {
				for _, turns := range [][]int{turn.Round(n+1, 3000), turn.Mixed(n+1, 3000, seed), turn.Bursts(n+1, 4000, 9, seed), turn.Bursts(n+1, 6000, 200, seed)} {
					w := newWorld(t, n, size)
					for i, who := range turns {
						w.pick(who)
						// Else with many who put a taking would hardly ever end.
						if i%2 == 0 {
							w.pick(n)
						}
					}
					if w.takings == 0 {
						t.Fatal(n, size, seed, "nothing was taken")
					}
				}
			}
		}
	}
}

// A ring that always has a number is taken from in its turn, however much comes at the others.
func TestEachHasItsTurn(t *testing.T) {
	for _, n := range []int{1, 2, 3, 64} {
		w := newWorld(t, n, 4)
		for round := range 5 {
			for i := range n {
				w.putWhole(i)
				w.putWhole(i)
			}
			for i := range n {
				before := len(w.queues[i])
				w.takeWhole()
				if len(w.queues[i]) != before-1 {
					t.Fatal(n, round, i, "wasn't taken from")
				}
			}
		}
	}
}

// A number that is put into a ring that was looked at already waits for the next taking.
func TestPutBehind(t *testing.T) {
	w := newWorld(t, 2, 1)
	w.takeWhole()
	half := w.steps / 2
	for range half {
		w.take()
	}
	w.putWhole(0)
	for w.a != nil {
		w.take()
	}
	if w.none != 2 {
		t.Error(w.none)
	}
	w.takeWhole()
	if w.l.Len() != 0 || w.cursor != 1 {
		t.Error(w.l.Len(), w.cursor)
	}
}

// What is handed in isn't changed, its spare room neither, and the list isn't kept.
func TestHandedIn(t *testing.T) {
	l := rings(4)
	was := slices.Clone(l)
	x, _ := lane.New(l[:2])
	if !slices.Equal(l, was) {
		t.Error("it was changed")
	}
	run2(was[1].Push(7))
	l[0], l[1] = nil, nil
	if x.Len() != 1 {
		t.Error(x.Len())
	}
	if a := run(x.Next(), 2); a.Value() != 7 || a.From() != 1 {
		t.Error(a.Value(), a.From())
	}
}

func run2(a *ring.Act) {
	for range maxSteps {
		if a.Step() {
			break
		}
	}
}

// Rings may lie in memories of their own: a Mark is a time of the one of the last Pop.
func TestMemoriesOfTheirOwn(t *testing.T) {
	a, _ := mem.New(ring.Cells(1), 0)
	b, _ := mem.New(ring.Cells(1), 0)
	for range 50 {
		a.Load(0)
	}
	x, _ := ring.New(a, 0, 1, 0)
	y, _ := ring.New(b, 0, 1, 0)
	l, _ := lane.New([]*ring.Ring{x, y})
	if n := run(l.Next(), 2); n.Ok() || n.Mark() != b.Time() {
		t.Error(n.Ok(), n.Mark(), b.Time())
	}
	run2(x.Push(4))
	if n := run(l.Next(), 2); n.Value() != 4 || n.Mark() != a.Time() {
		t.Error(n.Value(), n.Mark(), a.Time())
	}
}

// If, against the rule, somebody else is at a ring, a taking ends all the same, and goes on behind it.
func TestSomebodyElseTakes(t *testing.T) {
	for _, other := range []int{0, 1, 2} {
		w := newWorld(t, 3, 1)
		w.rings[other].Pop()
		for i := range 3 {
			w.putWhole(i)
		}
		first := w.l.Next()
		if !run(first, 3).Ok() || first.From() == other {
			t.Error(other, first.Ok(), first.From())
		}
		run(w.l.Next(), 3)
		if a := run(w.l.Next(), 3); !a.Over() || a.Ok() {
			t.Error(other, a.Over(), a.Ok())
		}
	}
}
