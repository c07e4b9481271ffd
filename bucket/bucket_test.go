package bucket_test

import (
	"fmt"
	"math"
	"slices"
	"testing"

	"patchbay/bucket"
	"patchbay/key"
	"patchbay/slot"
	"patchbay/ticks"
	"patchbay/turn"
)

const most = math.MaxUint32

var (
	x = key.Key{Vid: 1, Mac: 0x020000000001}
	y = key.Key{Vid: 1, Mac: 0x020000000002}
	z = key.Key{Vid: 2, Mac: 0x020000000001}
	w = key.Key{Vid: 4094, Mac: 0xFEFFFFFFFFFF}
	// junk is a place that isn't Used: what it is counts for nothing.
	junk = bucket.Place{Entry: slot.Entry{Key: x, Port: 9, Static: true, Stamp: 4}}
	free = bucket.Place{}
)

func seen(k key.Key, port int, stamp uint32) bucket.Place {
	return bucket.Place{Used: true, Entry: slot.Entry{Key: k, Port: port, Stamp: stamp}}
}

func ordered(k key.Key, port int) bucket.Place {
	return bucket.Place{Used: true, Entry: slot.Entry{Key: k, Port: port, Static: true}}
}

type places = []bucket.Place

func TestNumbersOfWhatCame(t *testing.T) {
	l := []int{bucket.Kept, bucket.Fresh, bucket.Moved, bucket.New, bucket.Evicted, bucket.Refused}
	if !slices.Equal(l, []int{0, 1, 2, 3, 4, 5}) {
		t.Error(l)
	}
}

func TestFind(t *testing.T) {
	rows := []struct {
		l    places
		k    key.Key
		want int
	}{
		{nil, x, -1}, {places{}, x, -1}, {places{free}, x, -1}, {places{junk}, x, -1}, {places{junk, seen(x, 1, 0)}, x, 1},
		{places{seen(x, 1, 5)}, x, 0}, {places{seen(x, 1, 5)}, y, -1}, {places{seen(x, 1, 5)}, z, -1}, {places{ordered(x, 1)}, x, 0},
		{places{seen(x, 1, 5), ordered(y, 2), seen(z, 3, 6), free}, z, 2}, {places{seen(x, 1, 5), ordered(y, 2), seen(z, 3, 6), free}, y, 1},
		{places{seen(x, 1, 5), ordered(y, 2), free, seen(w, 0, 6)}, w, 3}, {places{free, free}, key.Key{}, -1}, {places{junk}, key.Key{}, -1},
		{places{seen(x, 1, 5)}, key.Key{Vid: -1, Mac: math.MaxUint64}, -1},
	}
	for _, r := range rows {
		if got := bucket.Find(r.l, r.k); got != r.want {
			t.Errorf("Find(%+v, %x): %d, not %d", r.l, r.k, got, r.want)
		}
	}
}

func TestExampleOfOnePlace(t *testing.T) {
	l := places{free}
	var came []int
	put := func(n places, c int) { l, came = n, append(came, c) }
	put(bucket.Learn(l, x, 1, 5))
	put(bucket.Learn(l, x, 2, 6))
	put(bucket.Learn(l, y, 3, 7))
	put(bucket.Order(l, z, 4, 8))
	put(bucket.Learn(l, x, 1, 9))
	want := []int{bucket.New, bucket.Moved, bucket.Evicted, bucket.Evicted, bucket.Refused}
	if !slices.Equal(came, want) || !slices.Equal(l, places{ordered(z, 4)}) {
		t.Errorf("%v, %+v", came, l)
	}
}

type putRow struct {
	name string
	l    places
	k    key.Key
	port int
	now  uint32
	want places
	came int
}

func tryPuts(t *testing.T, put func(places, key.Key, int, uint32) (places, int), rows []putRow) {
	t.Helper()
	for _, r := range rows {
		if got, came := put(r.l, r.k, r.port, r.now); came != r.came || !slices.Equal(got, r.want) {
			t.Errorf("%s: %d, %+v, not %d, %+v", r.name, came, got, r.came, r.want)
		}
	}
}

func TestLearn(t *testing.T) {
	tryPuts(t, bucket.Learn, []putRow{
		{"Static at this port", places{ordered(x, 1)}, x, 1, 5, places{ordered(x, 1)}, bucket.Kept},
		{"Static at another port", places{ordered(x, 1)}, x, 2, 5, places{ordered(x, 1)}, bucket.Kept},
		{"Static, at the tick 0", places{ordered(x, 1)}, x, 1, 0, places{ordered(x, 1)}, bucket.Kept},
		{"the same", places{seen(x, 1, 5)}, x, 1, 5, places{seen(x, 1, 5)}, bucket.Kept},
		{"the same at 0", places{seen(x, 0, 0)}, x, 0, 0, places{seen(x, 0, 0)}, bucket.Kept},
		{"later", places{seen(x, 1, 5)}, x, 1, 6, places{seen(x, 1, 6)}, bucket.Fresh},
		{"earlier", places{seen(x, 1, 5)}, x, 1, 4, places{seen(x, 1, 4)}, bucket.Fresh},
		{"come round", places{seen(x, 1, most)}, x, 1, 0, places{seen(x, 1, 0)}, bucket.Fresh},
		{"at another port", places{seen(x, 1, 5)}, x, 2, 6, places{seen(x, 2, 6)}, bucket.Moved},
		{"at another port, the same tick", places{seen(x, 1, 5)}, x, 0, 5, places{seen(x, 0, 5)}, bucket.Moved},
		{"in its place, with one free ahead", places{free, seen(x, 1, 5)}, x, 63, 6, places{free, seen(x, 63, 6)}, bucket.Moved},
		{"in its place, though an older one is there", places{seen(y, 1, 1), seen(x, 1, 5)}, x, 2, 9, places{seen(y, 1, 1), seen(x, 2, 9)}, bucket.Moved},
		{"one free", places{free}, x, 0, 0, places{seen(x, 0, 0)}, bucket.New},
		{"the first free", places{ordered(y, 1), free, free}, x, 63, most, places{ordered(y, 1), seen(x, 63, most), free}, bucket.New},
		{"free behind an old one", places{seen(y, 1, 0), ordered(z, 1), free}, x, 5, 100, places{seen(y, 1, 0), ordered(z, 1), seen(x, 5, 100)}, bucket.New},
		{"free ahead of an old one", places{free, seen(y, 1, 0)}, x, 5, 100, places{seen(x, 5, 100), seen(y, 1, 0)}, bucket.New},
		{"free between", places{ordered(y, 1), free, ordered(z, 1)}, x, 5, 100, places{ordered(y, 1), seen(x, 5, 100), ordered(z, 1)}, bucket.New},
		{"of another VLAN", places{seen(x, 1, 5), free}, z, 1, 5, places{seen(x, 1, 5), seen(z, 1, 5)}, bucket.New},
		{"no place", nil, x, 1, 5, nil, bucket.Refused},
		{"one Static", places{ordered(y, 1)}, x, 1, 5, places{ordered(y, 1)}, bucket.Refused},
		{"all Static", places{ordered(y, 1), ordered(z, 2), ordered(w, 3)}, x, 1, 5, places{ordered(y, 1), ordered(z, 2), ordered(w, 3)}, bucket.Refused},
	})
}

func TestOrder(t *testing.T) {
	tryPuts(t, bucket.Order, []putRow{
		{"so already", places{ordered(x, 1)}, x, 1, 5, places{ordered(x, 1)}, bucket.Kept},
		{"at another port", places{ordered(x, 1)}, x, 2, 5, places{ordered(x, 2)}, bucket.Moved},
		{"learned there", places{seen(x, 1, 5)}, x, 1, 5, places{ordered(x, 1)}, bucket.Moved},
		{"learned there at 0", places{seen(x, 0, 0)}, x, 0, 0, places{ordered(x, 0)}, bucket.Moved},
		{"learned elsewhere", places{seen(x, 1, 5)}, x, 63, 6, places{ordered(x, 63)}, bucket.Moved},
		{"in its place, with one free ahead", places{free, seen(x, 1, 5)}, x, 2, 6, places{free, ordered(x, 2)}, bucket.Moved},
		{"one free", places{free}, x, 0, 7, places{ordered(x, 0)}, bucket.New},
		{"the first free", places{seen(y, 1, 0), free, free}, x, 63, 100, places{seen(y, 1, 0), ordered(x, 63), free}, bucket.New},
		{"instead of the oldest", places{seen(y, 1, 6), seen(z, 2, 5)}, x, 3, 9, places{seen(y, 1, 6), ordered(x, 3)}, bucket.Evicted},
		{"instead of the one learned", places{ordered(y, 1), seen(z, 2, 9)}, x, 3, 9, places{ordered(y, 1), ordered(x, 3)}, bucket.Evicted},
		{"no place", places{}, x, 1, 5, nil, bucket.Refused},
		{"all Static", places{ordered(y, 1), ordered(z, 2)}, x, 1, 5, places{ordered(y, 1), ordered(z, 2)}, bucket.Refused},
	})
}

func TestEvictedIsTheOldestThatWasLearned(t *testing.T) {
	rows := []struct {
		name   string
		now    uint32
		stamps []int64 // below 0: Static
		want   int
	}{
		{"one", 9, []int64{9}, 0}, {"the first", 9, []int64{3, 4, 5}, 0}, {"the second", 9, []int64{4, 3, 5}, 1}, {"the last", 9, []int64{5, 4, 3}, 2},
		{"of several the first", 9, []int64{5, 3, 3, 3}, 1}, {"all alike", 9, []int64{9, 9, 9}, 0}, {"all yet to come", 9, []int64{10, 11, 30}, 0},
		{"yet to come, and none ago", 9, []int64{10, 9, 11}, 0}, {"yet to come, and one ago", 9, []int64{10, 8, 11}, 1},
		{"come round", 5, []int64{0, most, 4, most - 1}, 3}, {"half the way round", 1 << 31, []int64{0, 1, 2}, 1},
		{"half the way round, and none else", 1 << 31, []int64{1 << 31, 0}, 0}, {"Static ahead", 9, []int64{-1, -1, 8, 7}, 3},
		{"Static between", 9, []int64{8, -1, 7, -1, 7, -1}, 2}, {"Static behind", 9, []int64{8, 8, -1}, 0}, {"Static ahead, none ago", 9, []int64{-1, 9, 9}, 1},
		{"Static but one, that is yet to come", 9, []int64{-1, -1, 20, -1}, 2}, {"eight", 100, []int64{50, 40, 60, -1, 30, 30, 99, 100}, 4},
	}
	for _, r := range rows {
		var l places
		for i, s := range r.stamps {
			k := key.Key{Vid: 3 + i, Mac: y.Mac}
			if s < 0 {
				l = append(l, ordered(k, i))
			} else {
				l = append(l, seen(k, i, uint32(s)))
			}
		}
		want := slices.Clone(l)
		want[r.want] = seen(x, 7, r.now)
		if got, came := bucket.Learn(l, x, 7, r.now); came != bucket.Evicted || !slices.Equal(got, want) {
			t.Errorf("Learn, %s: %d, %+v", r.name, came, got)
		}
		want[r.want] = ordered(x, 7)
		if got, came := bucket.Order(l, x, 7, r.now); came != bucket.Evicted || !slices.Equal(got, want) {
			t.Errorf("Order, %s: %d, %+v", r.name, came, got)
		}
	}
}

func TestWrongPortsAndKeysAreRefused(t *testing.T) {
	buckets := []places{nil, {free}, {junk, free}, {seen(x, 1, 5)}, {ordered(x, 1), free}, {seen(x, 1, 5), seen(y, 2, 1)}}
	keys := []key.Key{{}, {Vid: 0, Mac: 2}, {Vid: 4095, Mac: 2}, {Vid: 1}, {Vid: 1, Mac: 0x010000000002}, {Vid: 1, Mac: 1<<48 | 2}, {Vid: -1, Mac: math.MaxUint64}}
	for _, l := range buckets {
		same := slices.Clone(l)
		for i, p := range same {
			if !p.Used {
				same[i] = free
			}
		}
		check := func(name string, got places, came int) {
			if came != bucket.Refused || !slices.Equal(got, same) {
				t.Errorf("%s of %+v: %d, %+v", name, l, came, got)
			}
		}
		for _, port := range []int{-1, 64, 65, 256, 1 << 32, math.MinInt, math.MaxInt} {
			got, came := bucket.Learn(l, x, port, 9)
			check(fmt.Sprint("Learn at ", port), got, came)
			got, came = bucket.Order(l, x, port, 9)
			check(fmt.Sprint("Order at ", port), got, came)
		}
		for _, k := range keys {
			got, came := bucket.Learn(l, k, 1, 9)
			check(fmt.Sprint("Learn of ", k), got, came)
			got, came = bucket.Order(l, k, 1, 9)
			check(fmt.Sprint("Order of ", k), got, came)
		}
	}
}

func TestDrop(t *testing.T) {
	rows := []struct {
		name string
		l    places
		k    key.Key
		want places
		was  bool
	}{
		{"Static", places{ordered(x, 1)}, x, places{free}, true},
		{"Static between", places{seen(y, 1, 5), ordered(x, 1), ordered(z, 2)}, x, places{seen(y, 1, 5), free, ordered(z, 2)}, true},
		{"learned", places{seen(x, 1, 5)}, x, places{seen(x, 1, 5)}, false},
		{"another one", places{ordered(x, 1), ordered(y, 1)}, z, places{ordered(x, 1), ordered(y, 1)}, false},
		{"not Used", places{junk, free}, x, places{free, free}, false},
		{"none", nil, x, nil, false},
		{"of a wrong key", places{ordered(x, 1), free}, key.Key{}, places{ordered(x, 1), free}, false},
	}
	for _, r := range rows {
		if got, was := bucket.Drop(r.l, r.k); was != r.was || !slices.Equal(got, r.want) {
			t.Errorf("%s: %v, %+v", r.name, was, got)
		}
	}
}

func TestAge(t *testing.T) {
	rows := []struct {
		name       string
		l          places
		now, limit uint32
		want       places
		gone       int
	}{
		{"at the limit", places{seen(x, 1, 5)}, 15, 10, places{seen(x, 1, 5)}, 0},
		{"above it", places{seen(x, 1, 5)}, 16, 10, places{free}, 1},
		{"limit 0, none ago", places{seen(x, 1, 5)}, 5, 0, places{seen(x, 1, 5)}, 0},
		{"limit 0", places{seen(x, 1, 4), seen(y, 1, 5), seen(z, 1, 6)}, 5, 0, places{free, seen(y, 1, 5), seen(z, 1, 6)}, 1},
		{"Static", places{ordered(x, 1), seen(y, 1, 0)}, 1000, 10, places{ordered(x, 1), free}, 1},
		{"all", places{seen(x, 1, 1), seen(y, 1, 2), seen(z, 1, 3)}, 1000, 10, places{free, free, free}, 3},
		{"come round", places{seen(x, 1, most), seen(y, 1, most-20)}, 5, 10, places{seen(x, 1, most), free}, 1},
		{"the greatest age", places{seen(x, 1, 0), seen(y, 1, 1)}, 1<<31 - 1, 1<<31 - 2, places{free, seen(y, 1, 1)}, 1},
		{"yet to come", places{seen(x, 1, 0)}, 1 << 31, 0, places{seen(x, 1, 0)}, 0},
		{"the greatest limit", places{seen(x, 1, 1)}, 1 << 31, most, places{seen(x, 1, 1)}, 0},
		{"not Used", places{junk, seen(y, 1, 0), junk}, 1000, 10, places{free, free, free}, 1},
		{"none", nil, 1000, 10, nil, 0},
	}
	for _, r := range rows {
		if got, gone := bucket.Age(r.l, r.now, r.limit); gone != r.gone || !slices.Equal(got, r.want) {
			t.Errorf("%s: %d, %+v", r.name, gone, got)
		}
	}
}

func TestFlush(t *testing.T) {
	l := places{seen(x, 1, 5), ordered(y, 1), seen(z, 1, 6), junk, seen(w, 0, 7)}
	rows := []struct {
		port, vid int
		gone      []int // these places
	}{
		{-1, -1, []int{0, 2, 4}}, {1, -1, []int{0, 2}}, {0, -1, []int{4}}, {-1, 1, []int{0}}, {-1, 2, []int{2}}, {-1, 4094, []int{4}},
		{1, 1, []int{0}}, {1, 2, []int{2}}, {0, 4094, []int{4}}, {0, 1, nil}, {2, -1, nil}, {-1, 3, nil}, {63, 1, nil}, {9, -1, nil},
		{-2, -1, nil}, {-1, -2, nil}, {-1, 0, nil}, {64, -1, nil}, {-1, 4095, nil}, {math.MinInt, -1, nil}, {-1, math.MaxInt, nil}, {math.MaxInt, math.MinInt, nil},
	}
	for _, r := range rows {
		want := slices.Clone(l)
		want[3] = free
		for _, i := range r.gone {
			want[i] = free
		}
		if got, gone := bucket.Flush(l, bucket.Filter{Port: r.port, Vid: r.vid}); gone != len(r.gone) || !slices.Equal(got, want) {
			t.Errorf("Flush of %d, %d: %d, %+v", r.port, r.vid, gone, got)
		}
	}
	if got, gone := bucket.Flush(nil, bucket.Filter{Port: -1, Vid: -1}); gone != 0 || len(got) != 0 {
		t.Error("of no places:", got, gone)
	}
}

// calls are all calls that answer a bucket, each of which does something with some of the buckets tried.
var calls = []struct {
	name string
	call func(l places) places
}{
	{"Learn", func(l places) places { n, _ := bucket.Learn(l, x, 5, 50); return n }},
	{"Learn of another one", func(l places) places { n, _ := bucket.Learn(l, w, 5, 50); return n }},
	{"Learn refused", func(l places) places { n, _ := bucket.Learn(l, w, 64, 50); return n }},
	{"Order", func(l places) places { n, _ := bucket.Order(l, x, 5, 50); return n }},
	{"Order of another one", func(l places) places { n, _ := bucket.Order(l, w, 5, 50); return n }},
	{"Order refused", func(l places) places { n, _ := bucket.Order(l, key.Key{}, 5, 50); return n }},
	{"Drop", func(l places) places { n, _ := bucket.Drop(l, y); return n }},
	{"Drop of none", func(l places) places { n, _ := bucket.Drop(l, w); return n }},
	{"Age", func(l places) places { n, _ := bucket.Age(l, 100, 10); return n }},
	{"Age of none", func(l places) places { n, _ := bucket.Age(l, 100, most); return n }},
	{"Flush", func(l places) places { n, _ := bucket.Flush(l, bucket.Filter{Port: -1, Vid: -1}); return n }},
	{"Flush of none", func(l places) places { n, _ := bucket.Flush(l, bucket.Filter{Port: 50, Vid: -1}); return n }},
}

func TestWhatIsNotUsedIsZeroInAnswers(t *testing.T) {
	for _, c := range calls {
		for _, l := range []places{{junk, junk, junk}, {ordered(y, 1), junk, seen(x, 2, 3), junk}} {
			got := c.call(l)
			if len(got) != len(l) {
				t.Errorf("%s: %d places of %d", c.name, len(got), len(l))
			}
			for i, p := range got {
				if !p.Used && p != free {
					t.Errorf("%s: place %d is %+v", c.name, i, p)
				}
			}
		}
	}
}

func TestAnswersAreNewMemory(t *testing.T) {
	room := places{seen(x, 1, 5), ordered(y, 2), junk, seen(z, 3, 6), seen(x, 4, 7), junk}
	before := slices.Clone(room)
	for _, c := range calls {
		for n := range 5 {
			first := c.call(room[:n])
			want := slices.Clone(first)
			for i := range first {
				first[i] = seen(w, 60, 60)
			}
			first = append(first, seen(w, 61, 61))
			if !slices.Equal(room, before) {
				t.Fatalf("%s of %d places changed what it was given: %+v", c.name, n, room)
			}
			if second := c.call(room[:n]); !slices.Equal(second, want) {
				t.Errorf("%s of %d places: %+v, then %+v", c.name, n, want, second)
			}
			if len(first) != n+1 {
				t.Errorf("%s of %d places: %d", c.name, n, len(first)-1)
			}
		}
		given := slices.Clone(room[:4])
		answer := c.call(given)
		want := slices.Clone(answer)
		given[0], given[1], given[3] = free, free, seen(w, 60, 60)
		if !slices.Equal(answer, want) {
			t.Errorf("%s: the answer changed with what was given", c.name)
		}
	}
}

// plain does as the chapter tells, by lists of places that could be the one.
type plain struct{ l places }

func (b *plain) those(is func(p bucket.Place) bool) []int {
	var l []int
	for i, p := range b.l {
		if is(p) {
			l = append(l, i)
		}
	}
	return l
}

func (b *plain) learned() []int {
	return b.those(func(p bucket.Place) bool { return p.Used && !p.Entry.Static })
}

func (b *plain) of(k key.Key) []int {
	return b.those(func(p bucket.Place) bool { return p.Used && p.Entry.Key == k })
}

func (b *plain) enter(p bucket.Place, now uint32) int {
	if l := b.those(func(p bucket.Place) bool { return !p.Used }); len(l) > 0 {
		b.l[l[0]] = p
		return bucket.New
	}
	l := b.learned()
	if len(l) == 0 {
		return bucket.Refused
	}
	slices.SortStableFunc(l, func(i, j int) int {
		return int(ticks.Age(now, b.l[j].Entry.Stamp)) - int(ticks.Age(now, b.l[i].Entry.Stamp))
	})
	b.l[l[0]] = p
	return bucket.Evicted
}

func (b *plain) learn(k key.Key, port int, now uint32) int {
	there := b.of(k)
	if len(there) == 0 {
		return b.enter(seen(k, port, now), now)
	}
	p := &b.l[there[0]]
	was := *p
	if was.Entry.Static {
		return bucket.Kept
	}
	*p = seen(k, port, now)
	if was == *p {
		return bucket.Kept
	}
	if was.Entry.Port == port {
		return bucket.Fresh
	}
	return bucket.Moved
}

func (b *plain) order(k key.Key, port int, now uint32) int {
	there := b.of(k)
	if len(there) == 0 {
		return b.enter(ordered(k, port), now)
	}
	p := &b.l[there[0]]
	was := *p
	*p = ordered(k, port)
	if was == *p {
		return bucket.Kept
	}
	return bucket.Moved
}

func (b *plain) drop(k key.Key) int {
	for _, i := range b.of(k) {
		if b.l[i].Entry.Static {
			b.l[i] = free
			return 1
		}
	}
	return 0
}

func (b *plain) sweep(goes func(e slot.Entry) bool) int {
	gone := 0
	for _, i := range b.learned() {
		if goes(b.l[i].Entry) {
			b.l[i] = free
			gone++
		}
	}
	return gone
}

// alone: each key has one entry at most, each of which is Right.
func alone(l places) bool {
	had := map[key.Key]bool{}
	for _, p := range l {
		if p.Used && (had[p.Entry.Key] || !slot.Right(p.Entry)) {
			return false
		}
		had[p.Entry.Key] = p.Used || had[p.Entry.Key]
	}
	return true
}

func statics(l places) int {
	n := 0
	for _, p := range l {
		if p.Used && p.Entry.Static {
			n++
		}
	}
	return n
}

func TestManyCallsAnswerAsAPlainBucket(t *testing.T) {
	keys := []key.Key{x, y, z, w, {Vid: 2, Mac: 4}, {Vid: 2, Mac: 6}, {Vid: 3, Mac: 4}, {Vid: 4094, Mac: 2}, {Vid: 5, Mac: 8}, {Vid: 5, Mac: 10}}
	came := map[[2]int]int{}
	for size := range 9 {
		for _, start := range []uint32{0, 1000, 1<<31 - 40, most - 40} {
			l, b, now := make(places, size), plain{make(places, size)}, start
			for i := range 600 {
				n := turn.Mix(uint64(size)<<40 + uint64(start)<<4 + uint64(i))
				k, port, what := keys[n%10], int(n>>8%4), int(n>>16%16)
				now += uint32(n >> 24 % 3)
				at := now - uint32(n>>32%5) + uint32(n>>40%4)
				f := bucket.Filter{Port: int(n>>44%5) - 1, Vid: int(n>>48%5) - 1}
				before := statics(l)
				var got, want int
				var was bool
				switch {
				case what < 8:
					l, got = bucket.Learn(l, k, port, at)
					want = b.learn(k, port, at)
				case what < 10:
					l, got = bucket.Order(l, k, port, at)
					want = b.order(k, port, at)
				case what < 13:
					l, was = bucket.Drop(l, k)
					want = b.drop(k)
					if was {
						got = 1
					}
				case what < 15:
					limit := uint32(n >> 52 % 20)
					l, got = bucket.Age(l, at, limit)
					want = b.sweep(func(e slot.Entry) bool { return ticks.Age(at, e.Stamp) > limit })
				default:
					l, got = bucket.Flush(l, f)
					want = b.sweep(func(e slot.Entry) bool {
						return (f.Port < 0 || f.Port == e.Port) && (f.Vid < 0 || f.Vid == e.Key.Vid)
					})
				}
				came[[2]int{what, got}]++
				if got != want || !slices.Equal(l, b.l) {
					t.Fatalf("size %d, call %d (%d): %d, %+v, not %d, %+v", size, i, what, got, l, want, b.l)
				}
				if !alone(l) || statics(l) < before && !was {
					t.Fatalf("size %d, call %d (%d): %+v", size, i, what, l)
				}
			}
		}
	}
	for kind := range 6 {
		if came[[2]int{0, kind}] == 0 || kind != bucket.Fresh && came[[2]int{8, kind}] == 0 {
			t.Error("no Learn or Order that answers", kind, came)
		}
	}
}

// Of entries that aren't Right, or keys of which there are two, an end is promised.
func TestWrongBucketsEnd(t *testing.T) {
	wrong := places{
		{Used: true}, {Used: true}, seen(key.Key{Vid: -1, Mac: math.MaxUint64}, -5, 3), seen(x, 1, 5), seen(x, 2, 6), ordered(x, 3), ordered(y, 99),
		{Used: true, Entry: slot.Entry{Key: y, Port: math.MinInt, Static: true, Stamp: 9}},
	}
	for n := range len(wrong) + 1 {
		for _, c := range calls {
			if got := c.call(wrong[:n]); len(got) != n {
				t.Errorf("%s of %d wrong places: %d", c.name, n, len(got))
			}
		}
		bucket.Find(wrong[:n], key.Key{})
	}
}
