package ager_test

import (
	"cmp"
	"math"
	"slices"
	"testing"

	"patchbay/ager"
	"patchbay/api"
	"patchbay/book"
	"patchbay/bucket"
	"patchbay/fdb"
	"patchbay/key"
	"patchbay/mac"
	"patchbay/mem"
	"patchbay/ticks"
	"patchbay/turn"
)

// sizes are Right ones, at the edges and between.
var sizes = []book.Size{
	{Shards: 1, Buckets: 1, Slots: 1}, {Shards: 1, Buckets: 1, Slots: 8}, {Shards: 2, Buckets: 3, Slots: 2}, {Shards: 8, Buckets: 1, Slots: 2},
	{Shards: 1, Buckets: 16, Slots: 1}, {Shards: 3, Buckets: 2, Slots: 4}, {Shards: 8, Buckets: 16, Slots: 8},
}

const tries = 2

// world is an Fdb, one who sweeps it, and acts that were begun beside the sweeps.
type world struct {
	t *testing.T
	s book.Size
	m *mem.Mem
	f *fdb.Fdb
	a *ager.Ager

	acts []*act
	past []done // of sweeps ahead of the last one
	now  uint32 // of the sweep that began last
	lim  uint32
}

// act is a Learn, Order, Drop or Lookup, and what the book answers.
type act struct {
	*fdb.Act
	of func(b *book.Book) int
}

// done is an Age that has a Mark, and, if it is over, how many entries are gone.
type done struct {
	ager.Done
	now, lim uint32
	over     bool
}

func newWorld(t *testing.T, s book.Size) *world {
	t.Helper()
	w := &world{t: t, s: s}
	w.m, _ = mem.New(fdb.Cells(s), fdb.Locks(s))
	w.f, _ = fdb.New(w.m, 0, 0, s, tries)
	a, e := ager.New(w.f, s, 100)
	if a == nil || e != api.OK {
		t.Fatalf("New: %v: %d", s, e)
	}
	w.a = a
	return w
}

func station(i int) key.Key { return key.Key{Vid: 1 + i%3, Mac: mac.Mac(0x020000000001 + i/3)} }

func number(b bool) int {
	if b {
		return 1
	}
	return 0
}

func (w *world) learn(who int, k key.Key, port int, now uint32) *act {
	return w.add(w.f.Learn(who, k, port, now), func(b *book.Book) int { return b.Learn(k, port, now) })
}

func (w *world) order(who int, k key.Key, port int) *act {
	return w.add(w.f.Order(who, k, port, 0), func(b *book.Book) int { return b.Order(k, port, 0) })
}

func (w *world) lookup(who int, k key.Key) *act {
	return w.add(w.f.Lookup(who, k), func(b *book.Book) int { return b.Lookup(k) })
}

func (w *world) drop(who int, k key.Key) *act {
	return w.add(w.f.Drop(who, k), func(b *book.Book) int { return number(b.Drop(k)) })
}

func (w *world) add(a *fdb.Act, of func(*book.Book) int) *act {
	x := &act{a, of}
	w.acts = append(w.acts, x)
	return x
}

// end does all that is left of an act that waits for nobody.
func (w *world) end(a *act) int {
	w.t.Helper()
	for range fdb.Bound(w.s, tries) {
		a.Step()
	}
	if !a.Over() {
		w.t.Fatal("an act isn't over")
	}
	return a.Answer()
}

// rest does all that is left of a sweep that waits for nobody.
func (w *world) rest() {
	w.t.Helper()
	for range fdb.Bound(w.s, tries) * w.s.Shards * w.s.Buckets {
		if w.step() {
			return
		}
	}
	w.t.Fatalf("%v: a sweep isn't over", w.s)
}

// mixed begins the act number i of a seed.
func (w *world) mixed(who int, seed, i uint64) *act {
	x := turn.Mix(seed<<32 + i)
	k, port, now := station(int(x%uint64(2*w.s.Shards*w.s.Buckets*w.s.Slots+1))), int(x>>16%64), uint32(x>>24%40)
	switch x >> 32 % 8 {
	case 0:
		return w.order(who, k, port)
	case 1:
		return w.drop(who, k)
	case 2, 3:
		return w.lookup(who, k)
	}
	return w.learn(who, k, port, now)
}

func (w *world) begin(now, limit uint32) {
	w.t.Helper()
	for _, d := range w.a.Done() {
		w.past = append(w.past, done{d, w.now, w.lim, true})
	}
	time := w.m.Time()
	if !w.a.Begin(now, limit) || w.a.Idle() || len(w.a.Done()) != 0 || w.m.Time() != time {
		w.t.Fatalf("Begin(%d, %d): Done %v", now, limit, w.a.Done())
	}
	w.now, w.lim = now, limit
}

// marks are all Ages that have a Mark by now.
func (w *world) marks() []done {
	l := slices.Clone(w.past)
	for _, d := range w.a.Done() {
		l = append(l, done{d, w.now, w.lim, true})
	}
	if d, is := w.a.Now(); is && d.Mark > 0 {
		l = append(l, done{d, w.now, w.lim, false})
	}
	return l
}

// replay is the book of all that has a Mark, Ages and acts, in the order of their Marks; what is over must have answered as it does.
func (w *world) replay() *book.Book {
	type thing struct {
		mark, answer int
		over         bool
		of           func(b *book.Book) int
	}
	var l []thing
	for _, d := range w.marks() {
		l = append(l, thing{d.Mark, d.Gone, d.over, func(b *book.Book) int { return b.Age(d.Shard, d.Bucket, d.now, d.lim) }})
	}
	for _, a := range w.acts {
		if a.Mark() > 0 {
			l = append(l, thing{a.Mark(), a.Answer(), a.Over(), a.of})
		}
	}
	slices.SortFunc(l, func(a, b thing) int { return cmp.Compare(a.mark, b.mark) })
	b, _ := book.New(w.s)
	for i, x := range l {
		if want := x.of(b); x.over && x.answer != want {
			w.t.Fatalf("%v: at %d: %d, not %d", w.s, x.mark, x.answer, want)
		}
		if i > 0 && l[i-1].mark == x.mark {
			w.t.Fatalf("two Marks are %d", x.mark)
		}
	}
	return b
}

// stands: when nothing is under way the buckets are those of the book.
func (w *world) stands() {
	w.t.Helper()
	b := w.replay()
	for i := range w.s.Shards {
		for j := range w.s.Buckets {
			if got := w.f.Bucket(i, j); !slices.Equal(got, b.Bucket(i, j)) {
				w.t.Fatalf("bucket %d, %d: %+v, not %+v", i, j, got, b.Bucket(i, j))
			}
		}
	}
	for l := range w.m.Locks() {
		if w.m.Holder(l) != -1 {
			w.t.Fatalf("lock %d is %d's", l, w.m.Holder(l))
		}
	}
}

// step makes a Step of the Ager, and looks at all that is promised of it by itself.
func (w *world) step() bool {
	w.t.Helper()
	idle, time, was, gone := w.a.Idle(), w.m.Time(), w.a.Done(), w.a.Gone()
	mark := 0
	if d, is := w.a.Now(); is {
		mark = d.Mark
	}
	over := w.a.Step()
	steps, is := w.m.Time()-time, w.a.Done()
	if over != w.a.Idle() || idle && (!over || steps != 0) || steps > 1 || len(is) > len(was)+1 || !slices.Equal(is[:len(was)], was) {
		w.t.Fatalf("a Step of %d steps: idle %v, then %v, %v; done %v, then %v", steps, idle, over, w.a.Idle(), was, is)
	}
	if !idle {
		w.went(was, is, mark, w.a.Gone()-gone)
	}
	return over
}

// went: which bucket's Age went on, by what was done ahead of a Step, and behind it.
func (w *world) went(was, is []ager.Done, mark, gone int) {
	w.t.Helper()
	want := ager.Done{Shard: len(was) / w.s.Buckets, Bucket: len(was) % w.s.Buckets}
	d, under := w.a.Now()
	if len(is) == len(was) {
		if !under || d.Shard != want.Shard || d.Bucket != want.Bucket || d.Gone != 0 || gone != 0 || mark != 0 && d.Mark != mark || d.Mark > w.m.Time() {
			w.t.Fatalf("Now: %v, %v; mark was %d", d, under, mark)
		}
		return
	}
	last := is[len(was)]
	if last.Shard != want.Shard || last.Bucket != want.Bucket || last.Gone != gone || last.Mark <= 0 || mark != 0 && last.Mark != mark || under || d != (ager.Done{}) {
		w.t.Fatalf("Done: %v: %d are gone, mark was %d; Now: %v, %v", last, gone, mark, d, under)
	}
}

// sweep does a sweep that nobody meets, within its bound; it answers how many entries are gone.
func (w *world) sweep(now, limit uint32) int {
	w.t.Helper()
	w.begin(now, limit)
	bound, sum := fdb.Bound(w.s, tries)*w.s.Shards*w.s.Buckets, 0
	for i := 1; !w.step(); i++ {
		if i >= bound {
			w.t.Fatalf("%v: not over within %d Steps", w.s, bound)
		}
	}
	for _, d := range w.a.Done() {
		sum += d.Gone
	}
	if len(w.a.Done()) != w.s.Shards*w.s.Buckets {
		w.t.Fatalf("%v: done %v", w.s, w.a.Done())
	}
	w.stands()
	return sum
}

func TestNew(t *testing.T) {
	s := book.Size{Shards: 2, Buckets: 2, Slots: 2}
	w := newWorld(t, s)
	for _, who := range []int{0, 1, math.MaxInt} {
		a, e := ager.New(w.f, s, who)
		if a == nil || e != api.OK || !a.Idle() || !a.Step() || len(a.Done()) != 0 || a.Gone() != 0 {
			t.Errorf("by %d: %d", who, e)
		}
		if d, is := a.Now(); is || d != (ager.Done{}) {
			t.Errorf("by %d: Now %v", who, d)
		}
	}
	wrong := []book.Size{{}, {Shards: 9, Buckets: 2, Slots: 2}, {Shards: 2, Buckets: 17, Slots: 2}, {Shards: 2, Buckets: 2, Slots: 9}, {Shards: 0, Buckets: 2, Slots: 2}, {Shards: 2, Buckets: -1, Slots: 2}, {Shards: 2, Buckets: 2, Slots: 0}}
	for _, s := range wrong {
		if a, e := ager.New(w.f, s, 0); a != nil || e != api.ErrArg {
			t.Errorf("%v: %v, %d", s, a != nil, e)
		}
	}
	for _, who := range []int{-1, math.MinInt} {
		if a, e := ager.New(w.f, s, who); a != nil || e != api.ErrArg {
			t.Errorf("by %d: %v, %d", who, a != nil, e)
		}
	}
	if a, e := ager.New(nil, s, 0); a != nil || e != api.ErrArg {
		t.Errorf("of no Fdb: %v, %d", a != nil, e)
	}
	if w.m.Time() != 0 {
		t.Errorf("%d steps", w.m.Time())
	}
}

func TestNoAger(t *testing.T) {
	for name, a := range map[string]*ager.Ager{"nil": nil, "one that New didn't make": {}} {
		for range 3 {
			d, is := a.Now()
			if a.Begin(5, 0) || !a.Step() || !a.Idle() || len(a.Done()) != 0 || is || d != (ager.Done{}) || a.Gone() != 0 {
				t.Errorf("%s: %v, %v, %v, %d", name, a.Idle(), a.Done(), is, a.Gone())
			}
		}
	}
}

// The example of the chapter: all buckets, shard by shard.
func TestExampleOfSixBuckets(t *testing.T) {
	w := newWorld(t, book.Size{Shards: 2, Buckets: 3, Slots: 2})
	w.sweep(5, 1)
	var got [][2]int
	for _, d := range w.a.Done() {
		got = append(got, [2]int{d.Shard, d.Bucket})
	}
	if want := [][2]int{{0, 0}, {0, 1}, {0, 2}, {1, 0}, {1, 1}, {1, 2}}; !slices.Equal(got, want) {
		t.Errorf("%v", got)
	}
}

// A sweep that nobody meets: what is Old is gone, what isn't, or is Static, stays.
func TestSweepsAlone(t *testing.T) {
	for n, s := range sizes {
		for _, first := range []uint32{0, math.MaxUint32 - 6, 1<<31 - 7} {
			w := newWorld(t, s)
			for i := range 2*s.Shards*s.Buckets*s.Slots + 3 {
				if i%5 == 4 {
					w.end(w.order(0, station(i), i%64))
				} else {
					w.end(w.learn(0, station(i), i%64, first+uint32(turn.Mix(uint64(i))%20)))
				}
			}
			sum := 0
			for _, x := range [][2]uint32{{first + 15, 1 << 31}, {first + 15, 12}, {first + 22, 12}, {first + 22, 12}, {first + 22, 3}, {first + 23, 0}} {
				now, limit := x[0], x[1]
				before := w.entries(now, limit)
				gone := w.sweep(now, limit)
				after := w.entries(now, limit)
				if gone != before.old || after.old != 0 || after.static != before.static || after.all != before.all-gone {
					t.Errorf("%v, first %d, sweep %v: %d gone, %+v, then %+v", s, first, x, gone, before, after)
				}
				sum += gone
				if w.a.Gone() != sum {
					t.Errorf("%v: Gone %d, not %d", s, w.a.Gone(), sum)
				}
			}
			if n > 0 && (sum < 3 || w.entries(0, 0).static == 0) {
				t.Errorf("%v, first %d: %d are gone, %+v", s, first, sum, w.entries(0, 0))
			}
		}
	}
}

// counts is how many entries there are, and of these how many are Static, or Old and not Static.
type counts struct{ all, static, old int }

func (w *world) entries(now, limit uint32) counts {
	var c counts
	for i := range w.s.Shards {
		for j := range w.s.Buckets {
			for _, p := range w.f.Bucket(i, j) {
				c.all += number(p.Used)
				c.static += number(p.Used && p.Entry.Static)
				c.old += number(p.Used && !p.Entry.Static && ticks.Old(now, p.Entry.Stamp, limit))
			}
		}
	}
	return c
}

func TestEdgesOfTheLimit(t *testing.T) {
	rows := []struct {
		stamp, now, limit uint32
		gone              int
	}{
		{5, 15, 10, 0}, {5, 16, 10, 1}, {5, 5, 0, 0}, {5, 6, 0, 1}, {6, 5, 0, 0}, {math.MaxUint32, 0, 0, 1}, {math.MaxUint32, 4, 5, 0}, {math.MaxUint32, 5, 5, 1},
		{0, 1<<31 - 1, 1<<31 - 2, 1}, {0, 1 << 31, 0, 0}, {0, 1<<31 - 1, math.MaxUint32, 0},
	}
	for _, r := range rows {
		w := newWorld(t, book.Size{Shards: 2, Buckets: 2, Slots: 1})
		w.end(w.learn(0, station(0), 3, r.stamp))
		if got := w.sweep(r.now, r.limit); got != r.gone || w.a.Gone() != r.gone {
			t.Errorf("%+v: %d", r, got)
		}
	}
}

// While a sweep is under way another one isn't begun, and changes nothing; behind it, it is.
func TestBeginWhileOneIsUnderWay(t *testing.T) {
	w := newWorld(t, book.Size{Shards: 2, Buckets: 2, Slots: 2})
	for i := range 8 {
		w.end(w.learn(0, station(i), 3, 10))
	}
	w.begin(20, 15)
	for {
		done, time := w.a.Done(), w.m.Time()
		now, is := w.a.Now()
		if w.a.Begin(40, 0) {
			t.Fatal("Begin while one is under way")
		}
		if x, still := w.a.Now(); !slices.Equal(w.a.Done(), done) || x != now || still != is || w.m.Time() != time || w.a.Idle() {
			t.Fatal("a Begin that is false does something")
		}
		if w.step() {
			break
		}
	}
	w.stands()
	if w.a.Gone() != 0 {
		t.Errorf("%d are gone by the limit of a Begin that was false", w.a.Gone())
	}
	before := w.entries(40, 0).old
	if got := w.sweep(40, 0); got != before || got == 0 {
		t.Errorf("the next sweep: %d of %d", got, before)
	}
}

// Whoever does what between, and however it is picked: each Age takes effect at its Mark.
func TestWhoeverIsPickedBetween(t *testing.T) {
	gone, met := 0, 0
	for seed := range uint64(90) {
		s := sizes[seed%uint64(len(sizes)-1)]
		w := newWorld(t, s)
		const others = 4
		picks := turn.Mixed(others+1, 600, seed)
		if seed%2 == 0 {
			picks = turn.Bursts(others+1, 600, 7, seed)
		}
		acts, sweeps := make([]*act, others), 0
		for i, who := range picks {
			if who < others {
				if acts[who] == nil || acts[who].Over() {
					acts[who] = w.mixed(who, seed, uint64(i))
				}
				acts[who].Step()
			} else {
				if w.a.Idle() {
					w.begin(uint32(30+turn.Mix(uint64(i))%20), uint32(turn.Mix(uint64(i+1))%30))
					sweeps++
				}
				time := w.m.Time()
				w.step()
				if d, is := w.a.Now(); is && d.Mark == 0 && time < w.m.Time() {
					met++
				}
			}
			w.replay()
		}
		// All in turn: one of them may have the lock for which another one waits.
		for range (len(acts) + s.Shards*s.Buckets) * fdb.Bound(s, tries) {
			for _, a := range acts {
				if a != nil {
					a.Step()
				}
			}
			w.step()
		}
		w.stands()
		gone += w.a.Gone()
	}
	if gone < 20 || met < 20 {
		t.Errorf("%d are gone, %d Steps ahead of a Mark", gone, met)
	}
}

// A bucket whose lock is somebody's makes the sweep wait there; then it goes on.
func TestASweepWaitsForALock(t *testing.T) {
	s := book.Size{Shards: 2, Buckets: 1, Slots: 1}
	w := newWorld(t, s)
	k := station(0)
	shard, _ := key.Place(k, 2, 1)
	change := w.learn(7, k, 3, 10)
	for change.Mark() == 0 {
		change.Step()
	}
	w.begin(20, 5)
	for range 200 {
		w.step()
	}
	d, is := w.a.Now()
	if !is || d != (ager.Done{Shard: shard}) || len(w.a.Done()) != shard || w.m.Holder(shard) != 7 {
		t.Errorf("it doesn't wait: %v, %v, %v", d, is, w.a.Done())
	}
	w.end(change)
	w.rest()
	w.stands()
	if w.a.Gone() != 1 || w.a.Done()[shard].Gone != 1 || w.a.Done()[shard].Mark <= change.Mark() {
		t.Errorf("Done: %v", w.a.Done())
	}
}

// An Age that is under way takes its shard's lock as who, and tells its Mark ahead of its end.
func TestNowTellsTheMark(t *testing.T) {
	w := newWorld(t, book.Size{Shards: 1, Buckets: 1, Slots: 1})
	w.end(w.learn(0, station(0), 3, 10))
	w.begin(20, 5)
	if d, is := w.a.Now(); is {
		t.Errorf("ahead of the first Step: %v", d)
	}
	locked, marked := false, 0
	for !w.step() {
		locked = locked || w.m.Holder(0) == 100
		d, is := w.a.Now()
		if !is || d.Gone != 0 {
			t.Errorf("Now: %v, %v", d, is)
		}
		marked = max(marked, d.Mark)
	}
	if d, is := w.a.Now(); is || !locked || marked == 0 || w.a.Done()[0] != (ager.Done{Gone: 1, Mark: marked}) {
		t.Errorf("Now: %v, %v; Done %v, marked %d, locked %v", d, is, w.a.Done(), marked, locked)
	}
}

func TestAnswersAreNewMemory(t *testing.T) {
	w := newWorld(t, book.Size{Shards: 2, Buckets: 2, Slots: 2})
	for i := range 8 {
		w.end(w.learn(0, station(i), 3, 10))
	}
	w.begin(20, 5)
	for len(w.a.Done()) < 2 {
		w.step()
	}
	l := w.a.Done()
	want := slices.Clone(l)
	for i := range l {
		l[i] = ager.Done{Shard: 9, Bucket: 9, Gone: 9, Mark: 9}
	}
	_ = append(l, ager.Done{Shard: 9})
	kept := w.a.Done()
	if !slices.Equal(kept, want) {
		t.Errorf("changed from outside: %v", kept)
	}
	w.rest()
	if !slices.Equal(w.a.Done()[:2], want) {
		t.Errorf("Done: %v", w.a.Done())
	}
	all := w.a.Done()
	clone := slices.Clone(all)
	w.sweep(60, 0)
	if !slices.Equal(kept, want) || !slices.Equal(all, clone) {
		t.Error("an answer changed with the Ager")
	}
}

// An Ager of another size than the Fdb's still comes to an end, and sweeps what buckets there are.
func TestOfAnotherSize(t *testing.T) {
	for _, s := range []book.Size{{Shards: 1, Buckets: 1, Slots: 1}, {Shards: 8, Buckets: 16, Slots: 8}, {Shards: 1, Buckets: 16, Slots: 1}} {
		w := newWorld(t, book.Size{Shards: 2, Buckets: 2, Slots: 2})
		for i := range 8 {
			w.end(w.learn(0, station(i), 3, 10))
		}
		a, _ := ager.New(w.f, s, 0)
		a.Begin(20, 5)
		for range s.Shards * s.Buckets * fdb.Bound(s, tries) {
			a.Step()
		}
		if !a.Idle() || len(a.Done()) != s.Shards*s.Buckets {
			t.Errorf("%v: idle %v, %d done", s, a.Idle(), len(a.Done()))
		}
		if left := w.entries(20, 5).old; s.Shards == 8 && left != 0 {
			t.Errorf("%v: %d left", s, left)
		}
	}
}

// A Flush that was begun ahead of a sweep, and stands still with locks, keeps it waiting; the sweep finds nothing then.
func TestASweepBehindAFlush(t *testing.T) {
	w := newWorld(t, book.Size{Shards: 2, Buckets: 2, Slots: 2})
	for i := range 8 {
		w.end(w.learn(0, station(i), 3, 10))
	}
	full := w.entries(20, 5).old
	all := bucket.Filter{Port: -1, Vid: -1}
	x := w.add(w.f.Flush(7, all), func(b *book.Book) int { return b.Flush(all) })
	for x.Mark() == 0 {
		x.Step()
	}
	w.begin(20, 5)
	for range 100 {
		w.step()
	}
	if len(w.a.Done()) != 0 {
		t.Errorf("Done: %v", w.a.Done())
	}
	if w.end(x) != full {
		t.Errorf("flushed: %d of %d", x.Answer(), full)
	}
	w.rest()
	w.stands()
	if w.a.Gone() != 0 {
		t.Errorf("%d are gone", w.a.Gone())
	}
}
