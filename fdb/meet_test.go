package fdb_test

import (
	"slices"
	"testing"

	"patchbay/api"
	"patchbay/book"
	"patchbay/bucket"
	"patchbay/fdb"
	"patchbay/key"
	"patchbay/turn"
)

// lists are calls of each of some whos, one behind the other.
func lists(s book.Size, whos, each, stations int, seed uint64) [][]call {
	l := make([][]call, whos)
	for i := range l {
		for j := range each {
			l[i] = append(l[i], mixed(s, stations, seed, uint64(i*each+j)))
		}
	}
	return l
}

// picked does calls of each of some whos, one behind the other, as the picks say; then what isn't over is done, in turn.
func (w *world) picked(calls [][]call, picks []int) {
	w.t.Helper()
	acts, next := make([]*run, len(calls)), make([]int, len(calls))
	for _, i := range slices.Concat(picks, turn.Round(len(calls), 20000)) {
		if acts[i] == nil || acts[i].act.Over() {
			if next[i] == len(calls[i]) {
				continue
			}
			acts[i] = w.begin(i, calls[i][next[i]])
			next[i]++
		}
		w.step(acts[i])
		w.stands()
	}
	w.quiet()
	for i, l := range calls {
		if next[i] != len(l) {
			w.t.Fatalf("of %d: %d of %d were begun", i, next[i], len(l))
		}
	}
}

func TestWhateverIsPicked(t *testing.T) {
	tries, came := 0, map[[2]int]int{}
	for seed := range uint64(140) {
		s := sizes[seed%uint64(len(sizes))]
		w := newWorld(t, s, 1+int(seed%3))
		picks := [][]int{turn.Mixed(5, 400, seed), turn.Bursts(5, 400, 2+int(seed%9), seed), nil}
		w.picked(lists(s, 5, 4, s.Shards*s.Buckets*s.Slots+2, seed), picks[seed/7%3])
		for _, r := range w.runs {
			tries += r.act.Tries()
			came[[2]int{r.kind, r.act.Answer()}]++
		}
	}
	if tries == 0 {
		t.Error("nothing was in vain")
	}
	for _, x := range [][2]int{{lookup, -1}, {lookup, 7}, {learn, bucket.New}, {learn, bucket.Moved}, {learn, bucket.Evicted}, {learn, bucket.Refused}, {order, bucket.New}, {drop, 0}, {drop, 1}, {age, 0}, {age, 1}, {flush, 0}, {flush, 1}} {
		if came[x] == 0 {
			t.Errorf("of kind %d never %d", x[0], x[1])
		}
	}
}

// pairs are two calls that meet each other, where station 0 of each bucket is there alone.
func pairs(s book.Size) [][2]call {
	k, far, none := stationIn(s, 0, 0, 0), stationIn(s, s.Shards-1, 0, 0), stationIn(s, 0, 0, 1)
	moved, evicts, ordered := call{kind: learn, k: k, port: 9, now: 50}, call{kind: learn, k: none, port: 8, now: 40}, call{kind: order, k: k, port: 11}
	swept, flushed, dropped := call{kind: age, now: 60, limit: 5}, call{kind: flush, filter: all}, call{kind: drop, k: k}
	sees, seesFar, seesNone := call{kind: lookup, k: k}, call{kind: lookup, k: far}, call{kind: lookup, k: none}
	return [][2]call{
		{moved, sees}, {evicts, sees}, {evicts, seesNone}, {ordered, sees}, {swept, sees}, {flushed, sees}, {flushed, seesFar}, {sees, seesFar},
		{moved, evicts}, {moved, ordered}, {ordered, swept}, {flushed, moved}, {flushed, evicts}, {flushed, flushed}, {flushed, ordered}, {moved, dropped}, {ordered, dropped},
	}
}

// Two acts take their first steps in all ways there are, by the bits of a number, and then in turn.
func TestAllWaysOfTwo(t *testing.T) {
	const first = 13
	for _, s := range []book.Size{{Shards: 1, Buckets: 1, Slots: 1}, {Shards: 2, Buckets: 1, Slots: 1}} {
		for _, p := range pairs(s) {
			tries := 0
			for ways := range 1 << first {
				w := newWorld(t, s, 1)
				w.light = true
				w.filled(1)
				acts := []*run{w.begin(0, p[0]), w.begin(1, p[1])}
				for i := range first {
					w.step(acts[ways>>i&1])
				}
				w.finish()
				tries += acts[1].act.Tries()
			}
			if (tries > 0) != (p[1].kind == lookup && p[0].kind != lookup) {
				t.Errorf("%v: %d in vain", p, tries)
			}
		}
	}
}

// stood is a call that stands still, and the bucket whose words it changes.
type stood struct {
	call
	shard, n int
	every    bool // it changes all buckets
}

func stoods(s book.Size) []stood {
	i, j := s.Shards-1, s.Buckets-1
	k, none := stationIn(s, i, j, 0), stationIn(s, i, j, s.Slots)
	in := func(c call) stood { return stood{call: c, shard: i, n: j} }
	return []stood{
		in(call{kind: learn, k: k, port: 9, now: 50}), in(call{kind: learn, k: none, port: 9, now: 50}), in(call{kind: order, k: k, port: 0}),
		in(call{kind: age, shard: i, n: j, now: 50, limit: 4}), in(call{kind: flush, filter: bucket.Filter{Port: 40, Vid: -1}}), {call: call{kind: flush, filter: all}, every: true},
	}
}

// standing is a world that is full; the station that was learned last is at port 40.
func standing(t *testing.T, s book.Size, tries int) *world {
	t.Helper()
	w := newWorld(t, s, tries)
	w.filled(0)
	w.do(0, call{kind: learn, k: stationIn(s, s.Shards-1, s.Buckets-1, s.Slots-1), port: 40, now: 30})
	return w
}

// spans is how many steps a call makes, and the first and the last one that changes a cell.
func spans(t *testing.T, s book.Size, c call) (steps, first, last int) {
	t.Helper()
	w := standing(t, s, 1)
	r := w.begin(9, c)
	for over := false; !over; {
		before := w.peek()
		over = w.step(r)
		steps++
		if slices.Equal(before, w.peek()) {
			continue
		}
		last = steps
		if first == 0 {
			first = steps
		}
	}
	if first == 0 || last <= first || r.act.Answer() == 0 {
		t.Fatalf("%+v changes nothing", c)
	}
	return steps, first, last
}

// A change stands still behind each of its steps: a Lookup is in vain, tries times, and then waits, just if its bucket is being changed.
func TestLookupsWhileAChangeStandsStill(t *testing.T) {
	for _, s := range []book.Size{{Shards: 1, Buckets: 1, Slots: 1}, {Shards: 2, Buckets: 2, Slots: 2}} {
		for _, c := range stoods(s) {
			steps, first, last := spans(t, s, c.call)
			for at := range steps + 1 {
				tries := 1 + at%8
				w := standing(t, s, tries)
				r := w.begin(9, c.call)
				for range at {
					w.step(r)
				}
				w.look(c, at >= first && at < last, tries)
				w.finish()
			}
		}
	}
}

// look looks up a station in each bucket, while a change stands still, that is between its first change of a cell and the last one, or isn't.
func (w *world) look(c stood, between bool, tries int) {
	w.t.Helper()
	waits := 0
	for i := range w.s.Shards {
		for j := range w.s.Buckets {
			r := w.begin(20+i*w.s.Buckets+j, call{kind: lookup, k: stationIn(w.s, i, j, w.s.Slots-1)})
			for range 2 * fdb.Bound(w.s, tries) {
				w.step(r)
			}
			w.stands()
			if !r.act.Over() {
				waits++
			}
			at := between && c.shard == i && c.n == j
			if !c.every && (r.act.Over() == at || r.act.Tries() != number(at)*tries) {
				w.t.Fatalf("%+v stands still: a Lookup of %d, %d: over %v, in vain %d times of %d", c, i, j, r.act.Over(), r.act.Tries(), tries)
			}
			if !r.act.Over() && r.act.Tries() != tries {
				w.t.Fatalf("%+v stands still: a Lookup waits, %d times in vain of %d", c, r.act.Tries(), tries)
			}
		}
	}
	if (waits > 0) != between {
		w.t.Fatalf("%+v stands still: %d Lookups wait", c, waits)
	}
}

// A change stands still behind each of its steps: those that need none of its locks are over; the others are, once it goes on.
func TestChangesWhileAChangeStandsStill(t *testing.T) {
	s := book.Size{Shards: 2, Buckets: 2, Slots: 2}
	for _, c := range stoods(s) {
		steps, _, _ := spans(t, s, c.call)
		for at := range steps + 1 {
			w := standing(t, s, 2)
			r := w.begin(9, c.call)
			for range at {
				w.step(r)
			}
			var l []*run
			for i := range s.Shards {
				for j := range s.Buckets {
					who := 20 + 4*(2*i+j)
					l = append(l, w.begin(who, call{kind: learn, k: stationIn(s, i, j, 4), port: 30, now: 60}), w.begin(who+1, call{kind: age, shard: i, n: j, now: 70, limit: 20}))
				}
			}
			for range len(l) * fdb.Bound(s, 2) {
				for _, r := range l {
					w.step(r)
				}
			}
			for _, x := range l {
				shard, _ := x.locks(s)
				if x.act.Over() == (w.m.Holder(w.lock+shard) == 9) {
					t.Fatalf("%+v stands still behind step %d: %+v: over %v", c, at, x.call, x.act.Over())
				}
			}
			w.stands()
			w.begin(50, call{kind: flush, filter: all})
			w.finish()
		}
	}
}

// Picked in turn, all are over within n times the bound, also if others stand still that have no lock.
func TestInTurnWithinTheBound(t *testing.T) {
	for seed := range uint64(60) {
		s := sizes[seed%uint64(len(sizes))]
		w := newWorld(t, s, 1+int(seed%8))
		stations := s.Shards*s.Buckets*s.Slots + 2
		for i := range uint64(10) {
			w.do(0, mixed(s, stations, seed+1000, i))
		}
		for i := range uint64(12) {
			// These stand still in their midst: most Lookups have no lock there, others only ahead of their first step.
			r := w.begin(100+int(i), mixed(s, stations, seed+2000, i))
			for range turn.Mix(seed+i) % 8 {
				w.step(r)
				if r.kind != lookup && w.has(r.who) {
					break
				}
			}
			for w.has(r.who) {
				w.step(r)
			}
		}
		whos := 1 + int(seed%7)
		w.inTurn(0, lists(s, whos, 1+int(seed%4), stations, seed))
		w.stands()
	}
}

// Those that meet each other most: all at one bucket, Flushes among them, each who with many.
func TestManyAtOneBucketInTurn(t *testing.T) {
	s := book.Size{Shards: 2, Buckets: 1, Slots: 1}
	w := newWorld(t, s, 2)
	kindsOf := []int{flush, learn, lookup, flush, lookup, learn, order, drop}
	var l [][]call
	for i := range 8 {
		var own []call
		for j := range 12 {
			own = append(own, call{kind: kindsOf[(i+j)%8], k: stationIn(s, (i+j/3)%2, 0, j%2), port: i, now: uint32(j), filter: all})
		}
		l = append(l, own)
	}
	w.inTurn(0, l)
	w.quiet()
	tries := 0
	for _, r := range w.runs {
		tries += r.act.Tries()
	}
	if tries == 0 {
		t.Error("nothing was in vain")
	}
}

// A Lookup whose bucket was changed, and stands again, between its readings is in vain once; of another bucket it isn't.
func TestInVainOnce(t *testing.T) {
	s := book.Size{Shards: 1, Buckets: 2, Slots: 2}
	for n := range 2 {
		for at := range 12 {
			w := newWorld(t, s, 8)
			w.filled(0)
			r := w.begin(1, call{kind: lookup, k: stationIn(s, 0, 0, 1)})
			for range at {
				w.step(r)
			}
			was := r.act.Over()
			w.do(2, call{kind: learn, k: stationIn(s, 0, n, 1), port: 50, now: 9})
			w.end(r)
			// One that has made no step yet, or is over, wasn't met.
			met := n == 0 && at > 0 && !was
			want := 1
			if n == 0 && !was {
				want = 50
			}
			if r.act.Tries() != number(met) || r.act.Answer() != want {
				t.Errorf("bucket %d, behind %d steps: in vain %d times, answer %d", n, at, r.act.Tries(), r.act.Answer())
			}
			w.quiet()
		}
	}
}

// What changes nothing is in nobody's way: Kept, Refused, nothing dropped, nothing gone.
func TestWhatChangesNothing(t *testing.T) {
	s := book.Size{Shards: 2, Buckets: 1, Slots: 1}
	learned, ordered := stationIn(s, 0, 0, 0), stationIn(s, 1, 0, 0)
	rows := []struct {
		c    call
		want int
	}{
		{call{kind: learn, k: learned, port: 5, now: 9}, bucket.Kept}, {call{kind: learn, k: ordered, port: 5, now: 9}, bucket.Kept},
		{call{kind: learn, k: stationIn(s, 1, 0, 1), port: 5, now: 9}, bucket.Refused}, {call{kind: order, k: stationIn(s, 1, 0, 1), port: 5}, bucket.Refused},
		{call{kind: order, k: ordered, port: 6}, bucket.Kept}, {call{kind: drop, k: learned}, 0}, {call{kind: drop, k: stationIn(s, 1, 0, 1)}, 0},
		{call{kind: age, shard: 0, now: 9 + 20, limit: 20}, 0}, {call{kind: age, shard: 1, now: 1 << 30}, 0},
		{call{kind: flush, filter: bucket.Filter{Port: 6, Vid: -1}}, 0}, {call{kind: flush, filter: bucket.Filter{Port: 5, Vid: 9}}, 0}, {call{kind: flush, filter: bucket.Filter{Port: -2, Vid: -1}}, 0},
		{call{kind: lookup, k: learned}, 5}, {call{kind: lookup, k: ordered}, 6}, {call{kind: lookup, k: stationIn(s, 1, 0, 1)}, -1},
	}
	for _, r := range rows {
		w := newWorld(t, s, 1)
		w.do(0, call{kind: learn, k: learned, port: 5, now: 9})
		w.do(0, call{kind: order, k: ordered, port: 6})
		before := w.peek()
		a := w.begin(1, r.c)
		for !w.step(a) {
			for _, k := range []key.Key{learned, ordered} {
				w.do(2, call{kind: lookup, k: k})
				if last := w.runs[len(w.runs)-1]; last.act.Tries() != 0 {
					t.Fatalf("%+v: a Lookup is in vain", r.c)
				}
			}
		}
		if a.act.Answer() != r.want || a.changed || !slices.Equal(w.peek(), before) {
			t.Errorf("%+v: %d", r.c, a.act.Answer())
		}
		w.quiet()
	}
}

// A who that has two acts at a time against the rules still harms nobody.
func TestOneWhoWithTwoActs(t *testing.T) {
	s := book.Size{Shards: 2, Buckets: 1, Slots: 1}
	for seed := range uint64(40) {
		w := newWorld(t, s, 1)
		w.filled(0)
		l := []*run{w.begin(3, call{kind: flush, filter: all}), w.begin(3, call{kind: learn, k: stationIn(s, 1, 0, 1), port: 3, now: 5}), w.begin(3, call{kind: lookup, k: stationIn(s, 1, 0, 1)})}
		for _, i := range append(turn.Mixed(3, 60, seed), turn.Round(3, 600)...) {
			w.step(l[i])
		}
		w.quiet()
	}
}

// The first example of the chapter.
func TestExampleOfALearnThatStandsStill(t *testing.T) {
	s := book.Size{Shards: 1, Buckets: 1, Slots: 1}
	for tries := 1; tries <= api.MaxTries; tries++ {
		w := newWorld(t, s, tries)
		k := station(0)
		w.do(0, call{kind: learn, k: k, port: 5, now: 1})
		change := w.begin(0, call{kind: learn, k: k, port: 7, now: 2})
		for !change.changed {
			w.step(change)
		}
		look := w.begin(1, call{kind: lookup, k: k})
		for range 500 {
			w.step(look)
		}
		if look.act.Over() || look.act.Tries() != tries || len(look.times) != 500 {
			t.Errorf("of %d tries: over %v, in vain %d times, %d steps", tries, look.act.Over(), look.act.Tries(), len(look.times))
		}
		w.end(change)
		for range fdb.Bound(s, tries) {
			w.step(look)
		}
		if !look.act.Over() || look.act.Answer() != 7 || look.act.Mark() <= change.act.Mark() {
			t.Errorf("of %d tries: over %v: %d", tries, look.act.Over(), look.act.Answer())
		}
		w.quiet()
	}
}
