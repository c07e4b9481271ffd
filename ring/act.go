package ring

// The stages of an act, each of one step; one that was never begun is over.
const (
	over     = iota
	counting // reads its own counter
	looking  // reads the other one's: is there room, is there a number?
	moving   // a number goes into its place, or is read there
	telling  // changes its own counter, so that the other one sees it
)

// Act is something that is being done.
type Act struct {
	r    *Ring
	puts bool // is it a Push?

	stage  int
	count  uint64 // its own counter
	number uint64 // what is to be put, or was read

	ok   bool
	mark int
}

// Step: it goes on; Over; Mark: at which time it took effect; Ok: was it put, or taken? Value: which.
func (a *Act) Step() bool {
	if a.Over() {
		return true
	}
	switch a.stage {
	case counting:
		a.count = a.r.m.Load(a.own())
		a.stage = looking
	case looking:
		a.look()
	case moving:
		a.move()
		a.stage = telling
	case telling:
		a.r.m.Store(a.own(), a.count+1)
		a.end(true)
	}
	return a.Over()
}

func (a *Act) Over() bool { return a == nil || a.stage == over }

func (a *Act) Mark() int {
	if a == nil {
		return 0
	}
	return a.mark
}

func (a *Act) Ok() bool { return a != nil && a.ok }

func (a *Act) Value() uint64 {
	if !a.Ok() {
		return 0
	}
	return a.number
}

// look reads how far the other one is. Whatever it does from there on only makes more room, or more numbers:
// so what there is now lasts till this act's last step; what there isn't ends it here.
func (a *Act) look() {
	found := false
	if a.puts {
		found = a.r.waiting(a.count, a.r.m.Load(a.r.base+taken)) < a.r.size
	} else {
		found = a.r.waiting(a.r.m.Load(a.r.base+put), a.count) > 0
	}
	if found {
		a.stage = moving
		return
	}
	a.end(false)
}

func (a *Act) move() {
	at := a.r.place(a.count)
	if a.puts {
		a.r.m.Store(at, a.number)
		return
	}
	a.number = a.r.m.Load(at)
}

// own is the cell of the counter that it alone changes.
func (a *Act) own() int {
	if a.puts {
		return a.r.base + put
	}
	return a.r.base + taken
}

// end: it takes effect with its last step, and makes way for the next one.
func (a *Act) end(ok bool) {
	a.stage = over
	a.ok = ok
	a.mark = a.r.m.Time()
	if a.puts {
		a.r.pushing = false
	} else {
		a.r.popping = false
	}
}
