package book_test

import (
	"math"
	"slices"
	"testing"

	"patchbay/api"
	"patchbay/book"
	"patchbay/bucket"
	"patchbay/key"
	"patchbay/mac"
	"patchbay/slot"
	"patchbay/turn"
)

var all = bucket.Filter{Port: -1, Vid: -1}

// sizes are Right ones, at the edges and between.
var sizes = []book.Size{
	{Shards: 1, Buckets: 1, Slots: 1}, {Shards: 8, Buckets: 16, Slots: 8}, {Shards: 1, Buckets: 16, Slots: 2}, {Shards: 8, Buckets: 1, Slots: 2},
	{Shards: 3, Buckets: 5, Slots: 2}, {Shards: 2, Buckets: 3, Slots: 1}, {Shards: 1, Buckets: 1, Slots: 8},
}

// wrong are keys that aren't Right.
var wrong = []key.Key{{}, {Vid: 0, Mac: 2}, {Vid: 4095, Mac: 2}, {Vid: 1}, {Vid: 1, Mac: 0x010000000002}, {Vid: 1, Mac: 1<<48 | 2}, {Vid: -1, Mac: math.MaxUint64}}

func made(t *testing.T, s book.Size) *book.Book {
	t.Helper()
	b, e := book.New(s)
	if e != api.OK || b == nil {
		t.Fatal(s, e)
	}
	return b
}

// station is the key number i.
func station(i int) key.Key { return key.Key{Vid: 1 + i%3, Mac: mac.Mac(0x020000000001 + i/3)} }

func TestRightSizes(t *testing.T) {
	near := func(most int) []int {
		return []int{math.MinInt, -1, 0, 1, 2, most - 1, most, most + 1, 2 * most, 1 << 32, 1<<32 + 1, math.MaxInt}
	}
	for _, shards := range near(8) {
		for _, buckets := range near(16) {
			for _, slots := range near(8) {
				s := book.Size{Shards: shards, Buckets: buckets, Slots: slots}
				want := shards >= 1 && shards <= 8 && buckets >= 1 && buckets <= 16 && slots >= 1 && slots <= 8
				if book.Right(s) != want {
					t.Errorf("%v: %v", s, book.Right(s))
				}
				b, e := book.New(s)
				if want && (b == nil || e != api.OK || b.Size() != s) || !want && (b != nil || e != api.ErrArg) {
					t.Errorf("New of %v: %v, %d", s, b != nil, e)
				}
			}
		}
	}
}

func TestNewBookIsEmpty(t *testing.T) {
	for _, s := range sizes {
		b := made(t, s)
		for i := range s.Shards {
			for j := range s.Buckets {
				if l := b.Bucket(i, j); !slices.Equal(l, make([]bucket.Place, s.Slots)) {
					t.Errorf("%v: bucket %d, %d: %+v", s, i, j, l)
				}
			}
		}
		if len(b.List()) != 0 || b.Lookup(station(0)) != -1 || b.Drop(station(0)) || b.Flush(all) != 0 || b.Age(0, 0, 9, 0) != 0 {
			t.Errorf("%v: isn't empty", s)
		}
	}
}

func TestExampleOfOnePlace(t *testing.T) {
	b := made(t, book.Size{Shards: 1, Buckets: 1, Slots: 1})
	if got := b.Learn(station(0), 3, 5); got != bucket.New {
		t.Error("Learn:", got)
	}
	if got := b.Lookup(station(0)); got != 3 {
		t.Error("Lookup:", got)
	}
	if got := b.Learn(station(1), 4, 6); got != bucket.Evicted {
		t.Error("Learn of another one:", got)
	}
	if b.Lookup(station(0)) != -1 || b.Lookup(station(1)) != 4 {
		t.Error("Lookups:", b.Lookup(station(0)), b.Lookup(station(1)))
	}
}

func TestEachKeyIsInItsBucketAlone(t *testing.T) {
	for _, s := range sizes {
		for i := range 60 {
			learned, ordered := made(t, s), made(t, s)
			k := station(i)
			if learned.Learn(k, 5, 9) != bucket.New || ordered.Order(k, 6, 9) != bucket.New {
				t.Fatal(s, k)
			}
			shard, number := key.Place(k, s.Shards, s.Buckets)
			for x := range s.Shards {
				for y := range s.Buckets {
					seen, told := bucket.Place{}, bucket.Place{}
					if x == shard && y == number {
						seen = bucket.Place{Used: true, Entry: slot.Entry{Key: k, Port: 5, Stamp: 9}}
						told = bucket.Place{Used: true, Entry: slot.Entry{Key: k, Port: 6, Static: true}}
					}
					if got := learned.Bucket(x, y)[0]; got != seen {
						t.Errorf("%v: Learn of %x: bucket %d, %d has %+v", s, k, x, y, got)
					}
					if got := ordered.Bucket(x, y)[0]; got != told {
						t.Errorf("%v: Order of %x: bucket %d, %d has %+v", s, k, x, y, got)
					}
				}
			}
		}
	}
}

// plain is all buckets, by shard and number, each changed by layer 10's calls.
type plain struct {
	s       book.Size
	buckets map[[2]int][]bucket.Place
}

func newPlain(s book.Size) *plain {
	p := &plain{s, map[[2]int][]bucket.Place{}}
	for i := range s.Shards {
		for j := range s.Buckets {
			p.buckets[[2]int{i, j}] = make([]bucket.Place, s.Slots)
		}
	}
	return p
}

func (p *plain) of(k key.Key) [2]int {
	i, j := key.Place(k, p.s.Shards, p.s.Buckets)
	return [2]int{i, j}
}

func (p *plain) lookup(k key.Key) int {
	for _, x := range p.buckets[p.of(k)] {
		if x.Used && x.Entry.Key == k {
			return x.Entry.Port
		}
	}
	return -1
}

func (p *plain) put(put func([]bucket.Place, key.Key, int, uint32) ([]bucket.Place, int), k key.Key, port int, now uint32) int {
	l, came := put(p.buckets[p.of(k)], k, port, now)
	p.buckets[p.of(k)] = l
	return came
}

func (p *plain) drop(k key.Key) int {
	l, was := bucket.Drop(p.buckets[p.of(k)], k)
	p.buckets[p.of(k)] = l
	return number(was)
}

func (p *plain) age(shard, n int, now, limit uint32) int {
	at := [2]int{shard, n}
	if _, ok := p.buckets[at]; !ok {
		return 0
	}
	l, gone := bucket.Age(p.buckets[at], now, limit)
	p.buckets[at] = l
	return gone
}

func (p *plain) flush(f bucket.Filter) int {
	sum := 0
	for i := range p.s.Shards {
		for j := range p.s.Buckets {
			l, gone := bucket.Flush(p.buckets[[2]int{i, j}], f)
			p.buckets[[2]int{i, j}] = l
			sum += gone
		}
	}
	return sum
}

func (p *plain) list() []slot.Entry {
	var l []slot.Entry
	for i := range p.s.Shards {
		for j := range p.s.Buckets {
			for _, x := range p.buckets[[2]int{i, j}] {
				if x.Used {
					l = append(l, x.Entry)
				}
			}
		}
	}
	return l
}

func number(b bool) int {
	if b {
		return 1
	}
	return 0
}

// differs: what of a book isn't as of the plain one, if anything.
func differs(b *book.Book, p *plain) string {
	if b.Size() != p.s {
		return "its size"
	}
	if !slices.Equal(b.List(), p.list()) {
		return "its entries"
	}
	for at, l := range p.buckets {
		if !slices.Equal(b.Bucket(at[0], at[1]), l) {
			return "a bucket"
		}
	}
	had := map[key.Key]bool{}
	for _, e := range b.List() {
		if had[e.Key] {
			return "two entries of a key"
		}
		had[e.Key] = true
	}
	return ""
}

func TestManyCallsAnswerAsPlainBuckets(t *testing.T) {
	for n, s := range sizes {
		b, p := made(t, s), newPlain(s)
		now := uint32(math.MaxUint32 - 300)
		stations := min(3*s.Shards*s.Buckets*s.Slots+2, 400)
		calls := map[int]int{}
		for i := range 3000 {
			x := turn.Mix(uint64(n)<<32 + uint64(i))
			k, port, what := station(int(x%uint64(stations))), int(x>>16%66)-1, int(x>>24%32)
			now += uint32(x >> 32 % 2)
			shard, nr, limit := int(x>>36%uint64(s.Shards+2))-1, int(x>>40%uint64(s.Buckets+2))-1, uint32(x>>48%12)
			f := bucket.Filter{Port: int(x>>52%65) - 1, Vid: int(x>>58%5) - 1}
			var kind, got, want int
			switch {
			case what < 16:
				kind, got, want = 0, b.Learn(k, port, now), p.put(bucket.Learn, k, port, now)
			case what < 17:
				kind, got, want = 1, b.Order(k, port, now), p.put(bucket.Order, k, port, now)
			case what < 24:
				kind, got, want = 2, number(b.Drop(k)), p.drop(k)
			case what < 27:
				kind, got, want = 3, b.Age(shard, nr, now, limit), p.age(shard, nr, now, limit)
			case what < 29:
				kind, got, want = 4, b.Flush(f), p.flush(f)
			default:
				kind, got, want = 5, b.Lookup(k), p.lookup(k)
			}
			calls[kind] += number(got > 0)
			if got != want {
				t.Fatalf("%v: call %d (%d): %d, not %d", s, i, kind, got, want)
			}
			if how := differs(b, p); how != "" {
				t.Fatalf("%v: call %d (%d): %s", s, i, kind, how)
			}
		}
		for kind := range 6 {
			if calls[kind] == 0 {
				t.Errorf("%v: no call of kind %d with an answer above 0", s, kind)
			}
		}
	}
}

// full is a book with some entries, learned and ordered, and the plain one of them.
func full(t *testing.T, s book.Size) (*book.Book, *plain) {
	t.Helper()
	b, p := made(t, s), newPlain(s)
	for i := range 3 * s.Shards * s.Buckets * s.Slots {
		k, now := station(i), uint32(i)
		if i%4 == 0 {
			b.Order(k, i%64, now)
			p.put(bucket.Order, k, i%64, now)
		} else {
			b.Learn(k, i%64, now)
			p.put(bucket.Learn, k, i%64, now)
		}
	}
	if how := differs(b, p); how != "" {
		t.Fatal(how)
	}
	return b, p
}

func TestWrongKeysAndPorts(t *testing.T) {
	for _, s := range sizes {
		b, p := full(t, s)
		for _, k := range wrong {
			if b.Lookup(k) != -1 || b.Learn(k, 1, 5) != bucket.Refused || b.Order(k, 1, 5) != bucket.Refused || b.Drop(k) {
				t.Errorf("%v: of %x", s, k)
			}
		}
		for _, port := range []int{-1, 64, 65, 256, 1 << 32, math.MinInt, math.MaxInt} {
			for i := range 10 {
				if b.Learn(station(i), port, 5) != bucket.Refused || b.Order(station(i), port, 5) != bucket.Refused {
					t.Errorf("%v: at %d", s, port)
				}
			}
		}
		if how := differs(b, p); how != "" {
			t.Errorf("%v: changed: %s", s, how)
		}
	}
}

func TestBucketsThatThereAreNot(t *testing.T) {
	for _, s := range sizes {
		b, p := full(t, s)
		rows := [][2]int{
			{-1, 0}, {0, -1}, {-1, -1}, {s.Shards, 0}, {0, s.Buckets}, {s.Shards, s.Buckets}, {s.Shards - 1, s.Buckets}, {s.Shards, s.Buckets - 1},
			{-1, s.Buckets}, {1, -1}, {1, -s.Buckets}, {-1, 2 * s.Buckets}, {0, s.Shards * s.Buckets}, {math.MinInt, 0}, {0, math.MinInt}, {math.MaxInt, 0}, {0, math.MaxInt},
			{math.MaxInt, math.MaxInt}, {1 << 60, 0}, {1 << 62, 0}, {1 << 63 / 8 * -1, 0},
		}
		for _, r := range rows {
			if l := b.Bucket(r[0], r[1]); len(l) != 0 {
				t.Errorf("%v: bucket %d, %d: %+v", s, r[0], r[1], l)
			}
			if gone := b.Age(r[0], r[1], 1<<31-1, 0); gone != 0 {
				t.Errorf("%v: Age of %d, %d: %d", s, r[0], r[1], gone)
			}
		}
		if how := differs(b, p); how != "" {
			t.Errorf("%v: changed: %s", s, how)
		}
	}
}

func TestNoBook(t *testing.T) {
	for name, b := range map[string]*book.Book{"nil": nil, "one that New didn't make": {}} {
		for _, k := range append(wrong, station(0)) {
			if b.Lookup(k) != -1 || b.Learn(k, 1, 5) != bucket.Refused || b.Order(k, 1, 5) != bucket.Refused || b.Drop(k) {
				t.Errorf("%s: of %x", name, k)
			}
		}
		if b.Age(0, 0, 9, 0) != 0 || b.Flush(all) != 0 || len(b.Bucket(0, 0)) != 0 || len(b.List()) != 0 || b.Size() != (book.Size{}) {
			t.Error(name)
		}
	}
	var none *book.Book
	if none.Copy() != nil {
		t.Error("Copy of nil")
	}
}

func TestCopyHasTheSameAndGoesItsOwnWay(t *testing.T) {
	for _, s := range sizes {
		changes := []func(b *book.Book) int{
			func(b *book.Book) int { return number(b.Learn(station(0), 7, 1<<20) != bucket.Refused) },
			func(b *book.Book) int { return number(b.Learn(station(1), 9, 1<<20) != bucket.Refused) },
			func(b *book.Book) int { return number(b.Order(station(2), 7, 5) != bucket.Refused) },
			func(b *book.Book) int {
				n := 0
				for i := range 3 * s.Shards * s.Buckets * s.Slots {
					n += number(b.Drop(station(i)))
				}
				return n
			},
			func(b *book.Book) int { return b.Flush(all) },
			func(b *book.Book) int {
				n := 0
				for i := range s.Shards {
					for j := range s.Buckets {
						n += b.Age(i, j, 1<<30, 0)
					}
				}
				return n
			},
		}
		changed := 0
		for i, change := range changes {
			b, p := full(t, s)
			c := b.Copy()
			if how := differs(c, p); how != "" {
				t.Errorf("%v: a copy: %s", s, how)
			}
			changed += change(c)
			if how := differs(b, p); how != "" {
				t.Errorf("%v: change %d of the copy changed: %s", s, i, how)
			}
			b, p = full(t, s)
			c = b.Copy()
			change(b)
			if how := differs(c, p); how != "" {
				t.Errorf("%v: change %d changed the copy: %s", s, i, how)
			}
		}
		if changed == 0 {
			t.Errorf("%v: nothing was changed", s)
		}
	}
}

func TestAnswersAreNewMemory(t *testing.T) {
	for _, s := range sizes {
		b, p := full(t, s)
		for i := range s.Shards {
			for j := range s.Buckets {
				l := b.Bucket(i, j)
				for x := range l {
					l[x] = bucket.Place{Used: true, Entry: slot.Entry{Port: 60}}
				}
				_ = append(l, bucket.Place{Used: true})
			}
		}
		l := b.List()
		for x := range l {
			l[x] = slot.Entry{Port: 61}
		}
		if how := differs(b, p); how != "" {
			t.Errorf("%v: changed from outside: %s", s, how)
		}
		l, before := b.List(), b.Bucket(0, 0)
		want, first := slices.Clone(l), slices.Clone(before)
		b.Flush(all)
		b.Drop(station(0))
		if !slices.Equal(l, want) || !slices.Equal(before, first) {
			t.Errorf("%v: an answer changed with the book", s)
		}
	}
}
