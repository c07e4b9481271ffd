package fdb_test

import (
	"cmp"
	"slices"
	"testing"

	"patchbay/api"
	"patchbay/book"
	"patchbay/bucket"
	"patchbay/fdb"
	"patchbay/key"
	"patchbay/mac"
	"patchbay/mem"
	"patchbay/turn"
)

// The kinds of calls.
const (
	lookup = iota
	learn
	order
	drop
	age
	flush
	kinds
)

// call is one of the book's calls; what its kind doesn't use counts for nothing.
type call struct {
	kind       int
	k          key.Key
	port       int
	now, limit uint32
	shard, n   int
	filter     bucket.Filter
}

func (c call) begin(f *fdb.Fdb, who int) *fdb.Act {
	switch c.kind {
	case lookup:
		return f.Lookup(who, c.k)
	case learn:
		return f.Learn(who, c.k, c.port, c.now)
	case order:
		return f.Order(who, c.k, c.port, c.now)
	case drop:
		return f.Drop(who, c.k)
	case age:
		return f.Age(who, c.shard, c.n, c.now, c.limit)
	}
	return f.Flush(who, c.filter)
}

func (c call) of(b *book.Book) int {
	switch c.kind {
	case lookup:
		return b.Lookup(c.k)
	case learn:
		return b.Learn(c.k, c.port, c.now)
	case order:
		return b.Order(c.k, c.port, c.now)
	case drop:
		return number(b.Drop(c.k))
	case age:
		return b.Age(c.shard, c.n, c.now, c.limit)
	}
	return b.Flush(c.filter)
}

// locks are the shards whose locks it needs, if it changes something.
func (c call) locks(s book.Size) (from, to int) {
	switch c.kind {
	case flush:
		return 0, s.Shards
	case age:
		return c.shard, c.shard + 1
	}
	shard, _ := key.Place(c.k, s.Shards, s.Buckets)
	return shard, shard + 1
}

func number(b bool) int {
	if b {
		return 1
	}
	return 0
}

// station is the key number i.
func station(i int) key.Key { return key.Key{Vid: 1 + i%3, Mac: mac.Mac(0x020000000001 + i/3)} }

// stationIn is the key number i of those that are in a bucket.
func stationIn(s book.Size, shard, n, i int) key.Key {
	for j := 0; ; j++ {
		x, y := key.Place(station(j), s.Shards, s.Buckets)
		if x != shard || y != n {
			continue
		}
		if i == 0 {
			return station(j)
		}
		i--
	}
}

// run is an act, and what was seen of it.
type run struct {
	call
	who     int
	act     *fdb.Act
	began   int   // the Time when it was begun
	times   []int // of its own steps
	changed bool  // has it changed a cell?
	mark    int   // as it was behind its last Step
	calls   int   // of Step
}

// world is an Fdb in the midst of a memory, and all acts that were begun on it.
type world struct {
	t          *testing.T
	s          book.Size
	tries      int
	base, lock int
	m          *mem.Mem
	f          *fdb.Fdb
	runs       []*run
	cells      []uint64 // as they stood behind the last Step
	light      bool     // nobody looks at the cells, Step by Step
}

const margin = 3 // cells and locks ahead of the Fdb's, and behind them

func newWorld(t *testing.T, s book.Size, tries int) *world {
	t.Helper()
	w := &world{t: t, s: s, tries: tries, base: margin, lock: margin}
	w.m, _ = mem.New(fdb.Cells(s)+2*margin, fdb.Locks(s)+2*margin)
	f, e := fdb.New(w.m, w.base, w.lock, s, tries)
	if e != api.OK || f == nil {
		t.Fatalf("New: %v, %d", s, e)
	}
	w.f = f
	w.cells = w.peek()
	return w
}

func (w *world) peek() []uint64 {
	l := make([]uint64, w.m.Cells())
	for i := range l {
		l[i] = w.m.Peek(i)
	}
	return l
}

func (w *world) begin(who int, c call) *run {
	r := &run{call: c, who: who, began: w.m.Time()}
	r.act = c.begin(w.f, who)
	if r.act == nil || r.act.Over() || r.act.Mark() != 0 || r.act.Answer() != 0 || r.act.Tries() != 0 || w.m.Time() != r.began {
		w.t.Fatalf("begun: %+v", c)
	}
	w.runs = append(w.runs, r)
	return r
}

// step makes a Step of an act, and looks at all that is promised of it by itself.
func (w *world) step(r *run) bool {
	was, before := r.act.Over(), w.m.Time()
	is := r.act.Step()
	steps := w.m.Time() - before
	r.calls++
	if steps > 1 || was && (steps != 0 || !is) || is != r.act.Over() {
		w.t.Fatalf("%+v: a Step of %d steps: over %v, %v, %v", r.call, steps, was, is, r.act.Over())
	}
	if steps == 1 {
		r.times = append(r.times, w.m.Time())
	}
	w.marked(r)
	if !is && r.act.Answer() != 0 {
		w.t.Fatalf("%+v: isn't over, and answers %d", r.call, r.act.Answer())
	}
	if n := r.act.Tries(); n < 0 || n > w.tries || n > 0 && r.kind != lookup {
		w.t.Fatalf("%+v: in vain %d times", r.call, n)
	}
	if !w.light {
		w.changes(r)
	}
	return is
}

// marked: its Mark is a time of one of its own steps, and doesn't go away.
func (w *world) marked(r *run) {
	mark := r.act.Mark()
	if r.mark != 0 && mark != r.mark || mark != 0 && !slices.Contains(r.times, mark) || r.act.Over() && mark == 0 {
		w.t.Fatalf("%+v: Mark %d, and then %d, over %v, steps %v", r.call, r.mark, mark, r.act.Over(), r.times)
	}
	r.mark = mark
}

// changes: who changes a cell has the locks, and the cell is one of the Fdb's.
func (w *world) changes(r *run) {
	now := w.peek()
	for i := range now {
		if now[i] == w.cells[i] {
			continue
		}
		r.changed = true
		from, to := r.locks(w.s)
		for l := from; l < to; l++ {
			if w.m.Holder(w.lock+l) != r.who {
				w.t.Fatalf("%+v: changed a cell, and lock %d is %d's", r.call, l, w.m.Holder(w.lock+l))
			}
		}
		if i < w.base || i >= w.base+fdb.Cells(w.s) || r.kind == lookup {
			w.t.Fatalf("%+v: changed cell %d", r.call, i)
		}
	}
	w.cells = now
}

// replay is the book that does all that have a Mark, in the order of their Marks; each that is over must have answered as it does.
func (w *world) replay() *book.Book {
	var l []*run
	for _, r := range w.runs {
		if r.act.Mark() > 0 {
			l = append(l, r)
		}
	}
	slices.SortFunc(l, func(a, b *run) int { return cmp.Compare(a.act.Mark(), b.act.Mark()) })
	b, _ := book.New(w.s)
	for i, r := range l {
		if want := r.of(b); r.act.Over() && r.act.Answer() != want {
			w.t.Fatalf("%+v at %d: %d, not %d", r.call, r.act.Mark(), r.act.Answer(), want)
		}
		if i > 0 && r.act.Mark() == l[i-1].act.Mark() {
			w.t.Fatalf("two Marks are %d", r.act.Mark())
		}
	}
	return b
}

// stands: all answers are those of the book; so are the buckets, if no act is between its first change and its end.
func (w *world) stands() {
	b := w.replay()
	for _, r := range w.runs {
		if r.changed && !r.act.Over() {
			return
		}
	}
	time := w.m.Time()
	for i := range w.s.Shards {
		for j := range w.s.Buckets {
			if got := w.f.Bucket(i, j); !slices.Equal(got, b.Bucket(i, j)) {
				w.t.Fatalf("bucket %d, %d: %+v, not %+v", i, j, got, b.Bucket(i, j))
			}
		}
	}
	if w.m.Time() != time {
		w.t.Fatal("Bucket made a step")
	}
}

// quiet: no lock is anybody's, when no act is under way; those beside the Fdb's never are.
func (w *world) quiet() {
	for _, r := range w.runs {
		if !r.act.Over() {
			w.t.Fatalf("%+v isn't over", r.call)
		}
	}
	for l := range w.m.Locks() {
		if w.m.Holder(l) != -1 {
			w.t.Fatalf("lock %d is %d's", l, w.m.Holder(l))
		}
	}
	w.stands()
}

// finish does all that is under way, in turn: it is over within n times the bound.
func (w *world) finish() {
	w.t.Helper()
	var left []*run
	for _, r := range w.runs {
		if !r.act.Over() {
			left = append(left, r)
		}
	}
	for range len(left) * fdb.Bound(w.s, w.tries) {
		left = slices.DeleteFunc(left, w.step)
	}
	w.quiet()
}

// do does a call that no other one meets, within the bound.
func (w *world) do(who int, c call) int {
	w.t.Helper()
	r := w.begin(who, c)
	w.end(r)
	return r.act.Answer()
}

// end does all that is left of an act that waits for nobody.
func (w *world) end(r *run) {
	w.t.Helper()
	for range fdb.Bound(w.s, w.tries) {
		if w.step(r) {
			return
		}
	}
	w.t.Fatalf("%+v: not over within the bound", r.call)
}

// has: does somebody have a lock?
func (w *world) has(who int) bool {
	for l := range w.m.Locks() {
		if w.m.Holder(l) == who {
			return true
		}
	}
	return false
}

// inTurn does calls, of each of some whos one behind the other, picked in turn: all are over within n times the bound.
func (w *world) inTurn(first int, calls [][]call) {
	w.t.Helper()
	left := 0
	for _, l := range calls {
		left += len(l)
	}
	rounds := left * fdb.Bound(w.s, w.tries)
	acts, next := make([]*run, len(calls)), make([]int, len(calls))
	for range rounds {
		for i, l := range calls {
			if acts[i] == nil && next[i] < len(l) {
				acts[i] = w.begin(first+i, l[next[i]])
				next[i]++
			}
			if acts[i] != nil && w.step(acts[i]) {
				acts[i] = nil
				left--
			}
		}
		if left == 0 {
			return
		}
	}
	w.t.Fatalf("%d acts aren't over within %d rounds", left, rounds)
}

// mixed is the call number i of a seed, of so many stations, at few ports.
func mixed(s book.Size, stations int, seed, i uint64) call {
	ports := []int{0, 7, 63}
	x := turn.Mix(seed<<32 + i)
	y := turn.Mix(x)
	c := call{
		k: station(int(x % uint64(stations))), port: ports[x>>8%3], now: uint32(int64(i) - 20 + int64(x>>16%4)), limit: uint32(x >> 20 % 12),
		shard: int(x >> 24 % uint64(s.Shards)), n: int(x >> 28 % uint64(s.Buckets)), filter: bucket.Filter{Port: ports[x>>32%3], Vid: -1},
	}
	if x>>40%2 == 0 {
		c.filter = bucket.Filter{Port: -1, Vid: int(x>>44%5) - 1}
	}
	switch y % 16 {
	case 0, 1, 2, 3, 4:
		c.kind = lookup
	case 5:
		c.kind = order
	case 6, 7:
		c.kind = drop
	case 8, 9:
		c.kind = age
	case 10:
		c.kind = flush
	default:
		c.kind = learn
	}
	return c
}
