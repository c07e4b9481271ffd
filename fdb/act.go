package fdb

import (
	"slices"

	"patchbay/bucket"
	"patchbay/slot"
)

// The stages of an act; one that was never begun is over.
const (
	over    = iota
	trying  // reads a bucket without its lock
	taking  // takes locks
	loading // reads, and has the locks
	storing // changes cells
	freeing // gives the locks back
)

// work is what an act does with a bucket, and what comes of it there.
type work func(l []bucket.Place) ([]bucket.Place, int)

// write is a cell, and what is to stand in it.
type write struct {
	cell int
	word uint64
}

// Act is something that is being done.
type Act struct {
	f    *Fdb
	who  int
	work work

	lock, locks int // the first lock that it takes, and how many
	cell, cells int // the first cell of its buckets, and how many

	stage  int
	held   int      // how many locks it has
	loaded []uint64 // the first of its cells, as they were read
	writes []write  // what it changes: counters to odd ones, words, counters to even ones
	odds   int      // how many of the writes make a counter odd
	wrote  int      // how many of the writes are made

	mark, answer, vain int
}

// Step: it goes on; Over; Mark: at which time it took effect; Answer; Tries: how often it read in vain.
func (a *Act) Step() bool {
	if a.Over() {
		return true
	}
	switch a.stage {
	case trying:
		a.readFreely()
	case taking:
		a.take()
	case loading:
		a.load()
	case storing:
		a.store()
	case freeing:
		a.free()
	}
	return a.Over()
}

func (a *Act) Over() bool { return a == nil || a.stage == over }

func (a *Act) Mark() int {
	if a == nil {
		return 0
	}
	return a.mark
}

func (a *Act) Answer() int {
	if a == nil || a.stage != over {
		return 0
	}
	return a.answer
}

func (a *Act) Tries() int {
	if a == nil {
		return 0
	}
	return a.vain
}

// readFreely reads the counter, the words, and the counter again: if nobody was at it, all was read at once.
func (a *Act) readFreely() {
	if len(a.loaded) < a.cells {
		a.read()
		return
	}
	before, again := a.loaded[0], a.f.m.Load(a.cell)
	if again == before && isEven(again) {
		_, a.answer = a.work(places(a.loaded[1:]))
		a.takeEffect()
		a.end()
		return
	}
	a.vain++
	a.loaded = nil
	if a.vain == a.f.tries {
		a.stage = taking
	}
}

// take takes the next lock: all rising, so that no two acts wait for each other.
func (a *Act) take() {
	if !a.f.m.Take(a.lock+a.held, a.who) {
		return
	}
	a.held++
	if a.held == a.locks {
		a.stage = loading
	}
}

func (a *Act) load() {
	a.read()
	if len(a.loaded) < a.cells {
		return
	}
	a.settle()
	a.stage = storing
	if len(a.writes) == 0 {
		a.takeEffect()
		a.stage = freeing
	}
}

// store changes a cell. Once the last counter is odd nobody reads the old words any more, and nobody the new ones yet: there it takes effect.
func (a *Act) store() {
	w := a.writes[a.wrote]
	a.f.m.Store(w.cell, w.word)
	a.wrote++
	if a.wrote == a.odds {
		a.takeEffect()
	}
	if a.wrote == len(a.writes) {
		a.stage = freeing
	}
}

func (a *Act) free() {
	a.held--
	a.f.m.Free(a.lock+a.held, a.who)
	if a.held == 0 {
		a.end()
	}
}

func (a *Act) takeEffect() { a.mark = a.f.m.Time() }

// end: it is over, and what it read and wrote is of no use any more.
func (a *Act) end() {
	a.stage = over
	a.loaded, a.writes = nil, nil
}

func (a *Act) read() { a.loaded = append(a.loaded, a.f.m.Load(a.cell+len(a.loaded))) }

// settle works out of all that was read what is answered, and what is to be written.
func (a *Act) settle() {
	var odds, words, evens []write
	n := wide(a.f.size)
	for i := 0; i < len(a.loaded); i += n {
		first, counter := a.cell+i, a.loaded[i]
		was := places(a.loaded[i+1 : i+n])
		is, came := a.work(was)
		a.answer += came
		if slices.Equal(was, is) {
			continue
		}
		odd := counter | 1
		odds = append(odds, write{first, odd})
		words = append(words, changes(first+1, was, is)...)
		evens = append(evens, write{first, odd + 1})
	}
	a.odds = len(odds)
	a.writes = slices.Concat(odds, words, evens)
}

// changes is what is to be written so that a bucket, whose words begin at first, is another one.
func changes(first int, was, is []bucket.Place) []write {
	var l []write
	for i, p := range is {
		if p == was[i] {
			continue
		}
		// The entry of a place that isn't Used is zero, and no Right one: its words are 0.
		x, y := slot.Words(p.Entry)
		at := first + perPlace*i
		l = append(l, write{at, x}, write{at + 1, y})
	}
	return l
}

func isEven(n uint64) bool { return n%2 == 0 }
