package fdb_test

import (
	"math"
	"slices"
	"testing"

	"patchbay/api"
	"patchbay/book"
	"patchbay/bucket"
	"patchbay/fdb"
	"patchbay/key"
	"patchbay/mac"
	"patchbay/mem"
	"patchbay/slot"
)

// sizes are Right ones, at the edges and between.
var sizes = []book.Size{
	{Shards: 1, Buckets: 1, Slots: 1}, {Shards: 1, Buckets: 1, Slots: 8}, {Shards: 2, Buckets: 1, Slots: 1}, {Shards: 1, Buckets: 3, Slots: 2},
	{Shards: 3, Buckets: 2, Slots: 2}, {Shards: 8, Buckets: 1, Slots: 1}, {Shards: 1, Buckets: 16, Slots: 1},
}

var greatest = book.Size{Shards: 8, Buckets: 16, Slots: 8}

var wrongSizes = []book.Size{
	{}, {Shards: 0, Buckets: 1, Slots: 1}, {Shards: 1, Buckets: 0, Slots: 1}, {Shards: 1, Buckets: 1, Slots: 0},
	{Shards: 9, Buckets: 1, Slots: 1}, {Shards: 1, Buckets: 17, Slots: 1}, {Shards: 1, Buckets: 1, Slots: 9},
	{Shards: -1, Buckets: 1, Slots: 1}, {Shards: -1, Buckets: -1, Slots: 1}, {Shards: 1, Buckets: math.MinInt, Slots: 1}, {Shards: math.MaxInt, Buckets: math.MaxInt, Slots: math.MaxInt},
}

// wrongKeys are keys that aren't Right.
var wrongKeys = []key.Key{{}, {Vid: 0, Mac: 2}, {Vid: 4095, Mac: 2}, {Vid: 1}, {Vid: 1, Mac: 0x010000000002}, {Vid: 1, Mac: 1<<48 | 2}, {Vid: -1, Mac: mac.Mac(math.MaxUint64)}}

var all = bucket.Filter{Port: -1, Vid: -1}

func TestCellsLocksBound(t *testing.T) {
	rows := []struct {
		s                          book.Size
		tries, cells, locks, bound int
	}{
		{book.Size{Shards: 1, Buckets: 1, Slots: 1}, 1, 3, 1, 44},
		{book.Size{Shards: 1, Buckets: 1, Slots: 2}, 2, 5, 1, 68},
		{book.Size{Shards: 2, Buckets: 3, Slots: 4}, 5, 54, 2, 364},
		{greatest, 8, 2176, 8, 9552},
		{greatest, 1, 2176, 8, 9300},
	}
	for _, r := range rows {
		if c, l, b := fdb.Cells(r.s), fdb.Locks(r.s), fdb.Bound(r.s, r.tries); c != r.cells || l != r.locks || b != r.bound {
			t.Errorf("%v: %d cells, %d locks, bound %d", r.s, c, l, b)
		}
	}
	for _, s := range wrongSizes {
		if fdb.Cells(s) != 0 || fdb.Locks(s) != 0 || fdb.Bound(s, 1) != 0 {
			t.Errorf("%v: %d, %d, %d", s, fdb.Cells(s), fdb.Locks(s), fdb.Bound(s, 1))
		}
	}
	for _, tries := range []int{0, -1, 9, math.MinInt, math.MaxInt} {
		if b := fdb.Bound(greatest, tries); b != 0 {
			t.Errorf("of %d tries: %d", tries, b)
		}
	}
}

func TestNewWithinTheMemory(t *testing.T) {
	s := book.Size{Shards: 3, Buckets: 2, Slots: 2}
	cells, locks := fdb.Cells(s), fdb.Locks(s)
	m, _ := mem.New(cells+4, locks+2)
	good := []struct{ base, lock, tries int }{{0, 0, 1}, {4, 2, 8}, {3, 1, 4}, {0, 2, 1}, {4, 0, 8}}
	for _, r := range good {
		if f, e := fdb.New(m, r.base, r.lock, s, r.tries); f == nil || e != api.OK {
			t.Errorf("%v: %d", r, e)
		}
	}
	bad := []struct{ base, lock, tries int }{
		{5, 0, 1}, {-1, 0, 1}, {0, 3, 1}, {0, -1, 1}, {0, 0, 0}, {0, 0, 9}, {0, 0, -1}, {math.MaxInt, 0, 1}, {math.MinInt, 0, 1}, {0, math.MaxInt, 1}, {0, math.MinInt, 1},
		{0, 0, math.MaxInt}, {0, 0, math.MinInt}, {math.MaxInt - cells + 1, 0, 1}, {0, math.MaxInt - locks + 1, 1}, {cells + 4, 0, 1}, {0, locks + 2, 1},
	}
	for _, r := range bad {
		if f, e := fdb.New(m, r.base, r.lock, s, r.tries); f != nil || e != api.ErrArg {
			t.Errorf("%v: %v, %d", r, f != nil, e)
		}
	}
	for _, wrong := range wrongSizes {
		if f, e := fdb.New(m, 0, 0, wrong, 1); f != nil || e != api.ErrArg {
			t.Errorf("%v: %v, %d", wrong, f != nil, e)
		}
	}
	if m.Time() != 0 {
		t.Errorf("New made %d steps", m.Time())
	}
	for _, none := range []*mem.Mem{nil, {}} {
		if f, e := fdb.New(none, 0, 0, s, 1); f != nil || e != api.ErrArg {
			t.Errorf("of no memory: %v, %d", f != nil, e)
		}
	}
	few, _ := mem.New(cells-1, locks)
	less, _ := mem.New(cells, locks-1)
	just, _ := mem.New(cells, locks)
	for i, m := range []*mem.Mem{few, less, just} {
		if f, e := fdb.New(m, 0, 0, s, 1); (f != nil) != (i == 2) || (e == api.OK) != (i == 2) {
			t.Errorf("memory %d: %v, %d", i, f != nil, e)
		}
	}
}

func TestNewIsEmpty(t *testing.T) {
	for _, s := range append(sizes, greatest) {
		w := newWorld(t, s, 1)
		w.quiet()
		for i := range 20 {
			if got := w.do(0, call{kind: lookup, k: station(i)}); got != -1 {
				t.Errorf("%v: %d", s, got)
			}
		}
	}
}

// Each call alone answers as the book's does, and leaves what the book has.
func TestCallsBehindOneAnotherAnswerAsABook(t *testing.T) {
	for seed, s := range append(sizes, greatest) {
		w := newWorld(t, s, 1+seed%8)
		b, _ := book.New(s)
		calls := 400
		if s == greatest {
			calls = 60
		}
		came := map[[2]int]int{}
		for i := range uint64(calls) {
			c := mixed(s, 3*s.Shards*s.Buckets*s.Slots+2, uint64(seed), i)
			got, want := w.do(int(i%5), c), c.of(b)
			if got != want {
				t.Fatalf("%v: call %d, %+v: %d, not %d", s, i, c, got, want)
			}
			came[[2]int{c.kind, got}]++
			for i := range s.Shards {
				for j := range s.Buckets {
					if got := w.f.Bucket(i, j); !slices.Equal(got, b.Bucket(i, j)) {
						t.Fatalf("%v: behind %+v: %+v, not %+v", s, c, got, b.Bucket(i, j))
					}
				}
			}
		}
		w.quiet()
		if s.Slots == 1 && s.Buckets == 1 {
			for _, x := range [][2]int{{lookup, -1}, {learn, bucket.Kept}, {learn, bucket.Moved}, {learn, bucket.New}, {learn, bucket.Evicted}, {learn, bucket.Refused}, {order, bucket.Moved}, {drop, 0}, {drop, 1}, {age, 0}, {age, 1}, {flush, 0}} {
				if came[x] == 0 {
					t.Errorf("%v: of kind %d never %d", s, x[0], x[1])
				}
			}
		}
	}
}

// A full Fdb of the greatest size is flushed within the bound.
func TestTheGreatestFlush(t *testing.T) {
	w := newWorld(t, greatest, 1)
	w.filled(0)
	before := w.m.Time()
	if got := w.do(0, call{kind: flush, filter: all}); got != 8*16*8 {
		t.Errorf("%d are gone", got)
	}
	if n := w.m.Time() - before; n > fdb.Bound(greatest, 1) {
		t.Errorf("%d steps", n)
	}
	w.quiet()
}

// filled: all places of all buckets are learned ones, place i at port i and the tick first and i.
func (w *world) filled(first uint32) {
	w.t.Helper()
	for i := range w.s.Shards {
		for j := range w.s.Buckets {
			for p := range w.s.Slots {
				if got := w.do(0, call{kind: learn, k: stationIn(w.s, i, j, p), port: p, now: first + uint32(p)}); got != bucket.New {
					w.t.Fatalf("bucket %d, %d: %d", i, j, got)
				}
			}
		}
	}
}

func TestWhatCantBeBegun(t *testing.T) {
	s := book.Size{Shards: 3, Buckets: 2, Slots: 2}
	w := newWorld(t, s, 2)
	f, k := w.f, station(0)
	for _, who := range []int{-1, -2, math.MinInt} {
		for kind := range kinds {
			if (call{kind: kind, k: k, filter: all}).begin(f, who) != nil {
				t.Errorf("kind %d by %d", kind, who)
			}
		}
	}
	for _, k := range wrongKeys {
		for _, kind := range []int{lookup, learn, order, drop} {
			if (call{kind: kind, k: k}).begin(f, 0) != nil {
				t.Errorf("kind %d of %x", kind, k)
			}
		}
	}
	for _, port := range []int{-1, 64, 65, 256, 1 << 32, math.MinInt, math.MaxInt} {
		if f.Learn(0, k, port, 5) != nil || f.Order(0, k, port, 5) != nil {
			t.Errorf("at %d", port)
		}
	}
	for _, x := range [][2]int{{-1, 0}, {0, -1}, {3, 0}, {0, 2}, {2, 2}, {3, 1}, {1, -1}, {-1, 5}, {math.MinInt, 0}, {0, math.MinInt}, {math.MaxInt, math.MaxInt}, {1 << 62, 0}, {1 << 63 / 2 * -1, 0}} {
		if f.Age(0, x[0], x[1], 5, 0) != nil {
			t.Errorf("Age of %v", x)
		}
		if l := f.Bucket(x[0], x[1]); len(l) != 0 {
			t.Errorf("Bucket %v: %+v", x, l)
		}
	}
	for name, f := range map[string]*fdb.Fdb{"nil": nil, "one that New didn't make": {}} {
		for kind := range kinds {
			if (call{kind: kind, k: k, filter: all}).begin(f, 0) != nil {
				t.Errorf("%s: kind %d", name, kind)
			}
		}
		if len(f.Bucket(0, 0)) != 0 {
			t.Errorf("%s: a bucket", name)
		}
	}
	if w.m.Time() != 0 {
		t.Errorf("%d steps", w.m.Time())
	}
	// At the edges it can be.
	for _, a := range []*fdb.Act{f.Learn(0, k, 0, 5), f.Learn(math.MaxInt, k, 63, 5), f.Order(0, k, 0, 5), f.Order(0, k, 63, math.MaxUint32), f.Age(0, 0, 0, 5, 0), f.Age(0, 2, 1, 5, math.MaxUint32), f.Flush(0, bucket.Filter{Port: 64, Vid: -2})} {
		if a == nil {
			t.Error("one that can be isn't")
		}
	}
}

func TestNilActs(t *testing.T) {
	for name, a := range map[string]*fdb.Act{"nil": nil, "one that wasn't begun": {}} {
		for range 3 {
			if !a.Step() || !a.Over() || a.Mark() != 0 || a.Answer() != 0 || a.Tries() != 0 {
				t.Errorf("%s: %v, %d, %d, %d", name, a.Over(), a.Mark(), a.Answer(), a.Tries())
			}
		}
	}
}

func TestOfOneThatIsOverNothingIsDone(t *testing.T) {
	w := newWorld(t, book.Size{Shards: 2, Buckets: 1, Slots: 2}, 1)
	w.filled(5)
	for _, c := range []call{{kind: lookup, k: stationIn(w.s, 0, 0, 1)}, {kind: learn, k: stationIn(w.s, 0, 0, 5), port: 3}, {kind: flush, filter: all}} {
		w.do(1, c)
		r := w.runs[len(w.runs)-1]
		mark, answer, time, cells := r.act.Mark(), r.act.Answer(), w.m.Time(), w.peek()
		for range 5 {
			if !r.act.Step() || r.act.Mark() != mark || r.act.Answer() != answer || w.m.Time() != time || !slices.Equal(w.peek(), cells) {
				t.Errorf("%+v goes on", c)
			}
		}
	}
}

// Words that are no entry's are places that aren't Used; and whatever stands in the cells, all acts end.
func TestWordsThatAreNoEntrys(t *testing.T) {
	s := book.Size{Shards: 2, Buckets: 1, Slots: 2}
	for _, v := range []uint64{1, 2, math.MaxUint64, 1 << 60, 1 << 63} {
		w := newWorld(t, s, 2)
		for i := range fdb.Cells(s) {
			w.m.Store(w.base+i, v)
		}
		for shard := range 2 {
			if l := w.f.Bucket(shard, 0); !slices.Equal(l, make([]bucket.Place, 2)) {
				t.Errorf("of %x: %+v", v, l)
			}
		}
		for kind := range kinds {
			a := call{kind: kind, k: stationIn(s, 1, 0, 0), filter: all}.begin(w.f, 0)
			for range fdb.Bound(s, 2) {
				a.Step()
			}
			if !a.Over() || kind == lookup && a.Answer() != -1 || w.has(0) {
				t.Errorf("of %x: kind %d: %v, %d", v, kind, a.Over(), a.Answer())
			}
		}
	}
	w := newWorld(t, s, 1)
	k := stationIn(s, 0, 0, 0)
	w.do(0, call{kind: order, k: k, port: 9})
	x, y := slot.Words(slot.Entry{Key: k, Port: 9, Static: true})
	for i := range fdb.Cells(s) {
		// A Static one's words with a Stamp are no entry's.
		if w.m.Peek(w.base+i) == y && w.m.Peek(w.base+i-1) == x {
			w.m.Store(w.base+i, y|1<<32)
		}
	}
	if l := w.f.Bucket(0, 0); !slices.Equal(l, make([]bucket.Place, 2)) {
		t.Errorf("of one with a Stamp: %+v", l)
	}
}

func TestBucketsAreNewMemory(t *testing.T) {
	w := newWorld(t, book.Size{Shards: 1, Buckets: 2, Slots: 2}, 1)
	w.filled(0)
	l := w.f.Bucket(0, 1)
	want := slices.Clone(l)
	for i := range l {
		l[i] = bucket.Place{}
	}
	_ = append(l, bucket.Place{Used: true})
	kept := w.f.Bucket(0, 1)
	w.do(0, call{kind: flush, filter: all})
	if !slices.Equal(kept, want) {
		t.Error("an answer changed with the Fdb")
	}
	w.quiet()
}

// Two Fdbs in one memory, side by side, have nothing in common.
func TestTwoInOneMemory(t *testing.T) {
	s := book.Size{Shards: 2, Buckets: 2, Slots: 1}
	m, _ := mem.New(2*fdb.Cells(s), 2*fdb.Locks(s))
	a, _ := fdb.New(m, 0, 2, s, 1)
	b, _ := fdb.New(m, fdb.Cells(s), 0, s, 1)
	x, y := a.Flush(3, all), b.Flush(4, all)
	x.Step()
	x.Step()
	if m.Holder(2) != 3 || m.Holder(3) != 3 {
		t.Errorf("the first one's locks: %d, %d", m.Holder(2), m.Holder(3))
	}
	for range fdb.Bound(s, 1) {
		y.Step()
	}
	if !y.Over() || x.Over() {
		t.Error("one waits for the other")
	}
	for range fdb.Bound(s, 1) {
		x.Step()
	}
	learned := b.Learn(0, station(0), 5, 9)
	for range fdb.Bound(s, 1) {
		learned.Step()
	}
	shard, n := key.Place(station(0), 2, 2)
	if a.Bucket(shard, n)[0].Used || !b.Bucket(shard, n)[0].Used {
		t.Error("an entry is in the other one")
	}
}
