package model_test

import (
	"math"
	"slices"
	"testing"

	"patchbay/api"
	"patchbay/book"
	"patchbay/bucket"
	"patchbay/key"
	"patchbay/mac"
	"patchbay/model"
	"patchbay/port"
	"patchbay/turn"
	"patchbay/vlan"
)

func TestNumbers(t *testing.T) {
	kinds := []int{model.GetState, model.GetMembers, model.Learn, model.Lookup, model.Order, model.Drop, model.Age, model.Flush, model.SetState, model.SetVlan, model.Put, model.Get, model.Send}
	for i, kind := range kinds {
		if kind != i {
			t.Errorf("Kind %d has the number %d", i, kind)
		}
	}
	if model.Shut != 0 || model.Stranger != 1 || model.Bare != 2 || model.Tagged != 3 {
		t.Error("the numbers of what comes of a Send")
	}
}

// step is an Op, and what it answers.
type step struct {
	o    model.Op
	want int
}

// answers: does a model answer these, one behind the other?
func answers(t *testing.T, m *model.Model, l []step) {
	t.Helper()
	for i, s := range l {
		if got := m.Do(s.o); got != s.want {
			t.Errorf("%d: %+v: %d, not %d", i, s.o, got, s.want)
		}
	}
}

// three is a plan of 3 ports: VLAN 1 has all (port 0 without a tag), VLAN 2 has 0 and 1.
func three() model.Plan {
	return model.Plan{
		Ports: 3, Rules: rules(3), Vlans: []vlan.Vlan{{Vid: 1, Members: 7, Untagged: 1}, {Vid: 2, Members: 3, Untagged: 2}},
		Size: book.Size{Shards: 2, Buckets: 2, Slots: 2}, Tries: 2, Ring: 3, Normal: 300, Short: 15,
	}
}

func TestExampleOfTheChapter(t *testing.T) {
	answers(t, made(t, three()), []step{
		{model.Op{Kind: model.SetState, Port: 1, State: port.Forwarding}, 1},
		{model.Op{Kind: model.Send, To: 1, Vid: 1}, 3},
	})
}

func TestStatesAreSetAndCounted(t *testing.T) {
	m := made(t, three())
	epochs := make([]int, 3)
	for i := range 60 {
		p, state := i%7%3, i%5
		epochs[p]++
		answers(t, m, []step{
			{model.Op{Kind: model.SetState, Port: p, State: state}, epochs[p]},
			{model.Op{Kind: model.GetState, Port: p}, state},
		})
		if s := m.Stand(p); s != (port.Stand{State: state, Epoch: uint32(epochs[p])}) {
			t.Errorf("Stand(%d): %+v", p, s)
		}
	}
}

func TestMembersAreToldAsANumber(t *testing.T) {
	m := made(t, plans()[5])
	vid := plans()[5].Vlans[3].Vid
	for _, s := range []vlan.Set{0, 1, 2, 1 << 31, 1 << 32, 1 << 62, 1<<63 - 1, 1 << 63, 1<<63 | 1, math.MaxUint64} {
		want := 0
		for _, p := range vlan.List(s) {
			if p == 63 {
				want += math.MinInt
			} else {
				want += 1 << p
			}
		}
		answers(t, m, []step{{model.Op{Kind: model.SetVlan, Vid: vid, Members: s}, 1}, {model.Op{Kind: model.GetMembers, Vid: vid}, want}})
	}
	for _, none := range []int{0, -1, vid + 1, 4095, vid + 4096, vid + 1<<32, math.MinInt, math.MaxInt} {
		answers(t, m, []step{{model.Op{Kind: model.GetMembers, Vid: none}, 0}})
	}
}

func TestVlansKeepToThePlan(t *testing.T) {
	p := three()
	rows := []struct{ members, untagged, keptMembers, keptUntagged vlan.Set }{
		{0, 0, 0, 0}, {5, 4, 5, 4}, {5, 7, 5, 5}, {0, 7, 0, 0}, {2, 5, 2, 0}, {7, 7, 7, 7},
		{8, 8, 0, 0}, {9, 9, 1, 1}, {15, 8, 7, 0}, {math.MaxUint64, math.MaxUint64, 7, 7}, {1 << 63, 1 << 63, 0, 0}, {6, 1<<63 | 4, 6, 4},
	}
	for _, r := range rows {
		for i, v := range p.Vlans {
			m := made(t, p)
			want := slices.Clone(p.Vlans)
			want[i] = vlan.Vlan{Vid: v.Vid, Members: r.keptMembers, Untagged: r.keptUntagged}
			answers(t, m, []step{{model.Op{Kind: model.SetVlan, Vid: v.Vid, Members: r.members, Untagged: r.untagged}, 1}})
			if !slices.Equal(m.Vlans(), want) {
				t.Errorf("%x, %x: %+v", uint64(r.members), uint64(r.untagged), m.Vlans())
			}
		}
	}
	m := made(t, p)
	for _, none := range []int{0, -1, 3, 4095, 1<<32 + 1, math.MinInt, math.MaxInt} {
		answers(t, m, []step{{model.Op{Kind: model.SetVlan, Vid: none, Members: 1}, 0}})
	}
	if !slices.Equal(m.Vlans(), p.Vlans) {
		t.Errorf("of VLANs that there aren't: %+v", m.Vlans())
	}
}

func TestQueues(t *testing.T) {
	for _, p := range plans() {
		m := made(t, p)
		from, to := p.Ports-1, 0
		for round := range 3 {
			for i := range p.Ring + 3 {
				want := 1
				if i >= p.Ring {
					want = 0
				}
				answers(t, m, []step{{model.Op{Kind: model.Put, Port: from, To: to, Id: round*1000 + i}, want}})
			}
			if n := len(m.Queue(from, to)); n != p.Ring {
				t.Errorf("a ring of %d: %d wait", p.Ring, n)
			}
			if len(m.Queue(to, from)) != 0 || len(m.Queue(from, from)) != 0 {
				t.Error("something waits elsewhere")
			}
			for i := range p.Ring {
				answers(t, m, []step{{model.Op{Kind: model.Get, Port: to, To: from}, -1}, {model.Op{Kind: model.Get, Port: from, To: to}, round*1000 + i}})
			}
			answers(t, m, []step{{model.Op{Kind: model.Get, Port: from, To: to}, -1}})
		}
	}
}

func TestQueuesTakeAnyNumberAndAnyTwoPorts(t *testing.T) {
	m := made(t, three())
	for i, id := range []int{0, -1, -2, math.MinInt, math.MaxInt, 1 << 40} {
		from, to := i%3, i/3
		answers(t, m, []step{
			{model.Op{Kind: model.Put, Port: from, To: to, Id: id}, 1}, {model.Op{Kind: model.Put, Port: from, To: to, Id: 4}, 1},
			{model.Op{Kind: model.Get, Port: from, To: to}, id}, {model.Op{Kind: model.Get, Port: from, To: to}, 4}, {model.Op{Kind: model.Get, Port: from, To: to}, -1},
		})
	}
}

func TestSend(t *testing.T) {
	p := three()
	m := made(t, p)
	for state := range 5 {
		for to := range 3 {
			m.Do(model.Op{Kind: model.SetState, Port: to, State: state})
		}
		rows := []struct{ to, vid, want int }{
			{0, 1, model.Bare}, {1, 1, model.Tagged}, {2, 1, model.Tagged}, {0, 2, model.Tagged}, {1, 2, model.Bare}, {2, 2, model.Stranger},
			{0, 3, model.Stranger}, {1, 0, model.Stranger}, {1, -1, model.Stranger}, {2, 4095, model.Stranger}, {2, math.MinInt, model.Stranger}, {2, math.MaxInt, model.Stranger},
		}
		for _, r := range rows {
			want := r.want
			if state != port.Forwarding {
				want = model.Shut
			}
			answers(t, m, []step{{model.Op{Kind: model.Send, To: r.to, Vid: r.vid}, want}})
		}
	}
	answers(t, m, []step{
		{model.Op{Kind: model.SetState, Port: 1, State: port.Learning}, 6},
		{model.Op{Kind: model.Send, To: 0, Vid: 1}, model.Bare},
		{model.Op{Kind: model.Send, To: 1, Vid: 1}, model.Shut},
		{model.Op{Kind: model.SetVlan, Vid: 1, Members: 4}, 1},
		{model.Op{Kind: model.Send, To: 0, Vid: 1}, model.Stranger},
		{model.Op{Kind: model.Send, To: 1, Vid: 1}, model.Shut},
	})
}

func TestEntriesAreTheBooks(t *testing.T) {
	p := three()
	p.Size = book.Size{Shards: 1, Buckets: 1, Slots: 2}
	m := made(t, p)
	a, b, c := key.Key{Vid: 1, Mac: 2}, key.Key{Vid: 2, Mac: 2}, key.Key{Vid: 3, Mac: 4}
	answers(t, m, []step{
		{model.Op{Kind: model.Lookup, Key: a}, -1},
		{model.Op{Kind: model.Learn, Key: a, Port: 1, Now: 5}, bucket.New},
		{model.Op{Kind: model.Learn, Key: a, Port: 1, Now: 5}, bucket.Kept},
		{model.Op{Kind: model.Learn, Key: a, Port: 1, Now: 6}, bucket.Fresh},
		{model.Op{Kind: model.Learn, Key: a, Port: 2, Now: 6}, bucket.Moved},
		{model.Op{Kind: model.Lookup, Key: a}, 2},
		{model.Op{Kind: model.Order, Key: b, Port: 0}, bucket.New},
		{model.Op{Kind: model.Order, Key: b, Port: 0, Now: 9}, bucket.Kept},
		{model.Op{Kind: model.Learn, Key: b, Port: 1, Now: 9}, bucket.Kept},
		{model.Op{Kind: model.Learn, Key: c, Port: 1, Now: 7}, bucket.Evicted},
		{model.Op{Kind: model.Lookup, Key: a}, -1},
		{model.Op{Kind: model.Age, Now: 17, Limit: 10}, 0},
		{model.Op{Kind: model.Age, Now: 18, Limit: 10, Bucket: 1}, 0},
		{model.Op{Kind: model.Age, Now: 18, Limit: 10, Shard: -1}, 0},
		{model.Op{Kind: model.Age, Now: 18, Limit: 10}, 1},
		{model.Op{Kind: model.Drop, Key: c}, 0},
		{model.Op{Kind: model.Learn, Key: c, Port: 1, Now: 7}, bucket.New},
		{model.Op{Kind: model.Drop, Key: c}, 0},
		{model.Op{Kind: model.Flush, Port: 1, Vid: 2}, 0},
		{model.Op{Kind: model.Flush, Port: 2, Vid: -1}, 0},
		{model.Op{Kind: model.Flush, Port: 99, Vid: 3}, 0},
		{model.Op{Kind: model.Flush, Port: 1, Vid: 3}, 1},
		{model.Op{Kind: model.Flush, Port: -1, Vid: -1}, 0},
		{model.Op{Kind: model.Order, Key: c, Port: 2}, bucket.New},
		{model.Op{Kind: model.Learn, Key: a, Port: 1, Now: 7}, bucket.Refused},
		{model.Op{Kind: model.Drop, Key: b}, 1},
		{model.Op{Kind: model.Drop, Key: b}, 0},
		{model.Op{Kind: model.Learn, Key: a, Port: 1, Now: 7}, bucket.New},
	})
}

// wrongKeys are no Right ones.
var wrongKeys = []key.Key{{}, {Vid: 0, Mac: 2}, {Vid: 4095, Mac: 2}, {Vid: 1}, {Vid: 1, Mac: 0x010000000002}, {Vid: 1, Mac: 1<<48 | 2}, {Vid: -1, Mac: math.MaxUint64}}

func TestKeysThatAreNotRight(t *testing.T) {
	m := full(t, three())
	was := clone(m.Shape())
	for _, k := range wrongKeys {
		answers(t, m, []step{
			{model.Op{Kind: model.Learn, Key: k, Port: 1, Now: 5}, bucket.Refused}, {model.Op{Kind: model.Order, Key: k, Port: 1}, bucket.Refused},
			{model.Op{Kind: model.Lookup, Key: k}, -1}, {model.Op{Kind: model.Drop, Key: k}, 0},
			{model.Op{Kind: model.Learn, Key: k, Port: 3, Now: 5}, -1}, {model.Op{Kind: model.Order, Key: k, Port: -1}, -1},
		})
	}
	if !same(m.Shape(), was) {
		t.Error("something was done")
	}
}

// right is an Op of a Kind that a full model of p does; its answer isn't -1.
func right(p model.Plan, kind int) model.Op {
	o := model.Op{Kind: kind}
	switch kind {
	case model.GetState:
		o.Port = 1
	case model.GetMembers:
		o.Vid = p.Vlans[1].Vid
	case model.Learn, model.Order:
		o.Key, o.Port = station(p, 0), 1
		if kind == model.Learn {
			o.Now = 1 << 20
		}
	case model.Lookup:
		o.Key = station(p, 2*p.Size.Shards*p.Size.Buckets*p.Size.Slots-1)
	case model.Drop:
		o.Key = station(p, 4)
	case model.Age:
		o.Shard, o.Bucket, o.Now, o.Limit = p.Size.Shards-1, p.Size.Buckets-1, 1<<20, 9
	case model.Flush:
		o.Port, o.Vid = 1, -1
	case model.SetState:
		o.Port, o.State = 1, port.Listening
	case model.SetVlan:
		o.Vid, o.Members, o.Untagged = p.Vlans[1].Vid, 3, 2
	case model.Put, model.Get:
		o.Port, o.To = 1, 0
		if kind == model.Put {
			o.Id = 55
		}
	case model.Send:
		o.To, o.Vid = 0, p.Vlans[1].Vid
	}
	return o
}

// uses: the fields of an Op that a Kind uses.
func uses(kind int) string {
	return [...]string{"port", "vid", "port key now", "key", "port key", "key", "now limit shard bucket", "port vid", "port state", "vid sets", "port to id", "port to", "to vid"}[kind]
}

// wild is o with other values in one field.
func wild(o model.Op, field string, n int) model.Op {
	switch field {
	case "port":
		o.Port = n
	case "to":
		o.To = n
	case "vid":
		o.Vid = n
	case "state":
		o.State = n
	case "key":
		o.Key = wrongKeys[uint(n)%uint(len(wrongKeys))]
	case "sets":
		o.Members, o.Untagged = vlan.Set(n), vlan.Set(n)
	case "now":
		o.Now = uint32(n)
	case "limit":
		o.Limit = uint32(n)
	case "shard":
		o.Shard = n
	case "bucket":
		o.Bucket = n
	case "id":
		o.Id = n
	}
	return o
}

var fields = []string{"port", "to", "vid", "state", "key", "sets", "now", "limit", "shard", "bucket", "id"}

var wildNumbers = []int{-1, -2, 1, 3, 64, 65, 4095, 1 << 32, 1<<32 + 1, math.MinInt, math.MaxInt}

func usesField(kind int, field string) bool {
	rest := uses(kind)
	for len(rest) > 0 {
		i := 0
		for i < len(rest) && rest[i] != ' ' {
			i++
		}
		if rest[:i] == field {
			return true
		}
		rest = rest[min(i+1, len(rest)):]
	}
	return false
}

func TestWhatAKindDoesNotUseIsNotLookedAt(t *testing.T) {
	p := plans()[2]
	for kind := range 13 {
		o := right(p, kind)
		plain := full(t, p)
		want := plain.Do(o)
		if want == -1 {
			t.Errorf("Kind %d isn't done", kind)
		}
		for _, n := range wildNumbers {
			all := o
			for _, field := range fields {
				if usesField(kind, field) {
					continue
				}
				all = wild(all, field, n)
				m := full(t, p)
				if got := m.Do(wild(o, field, n)); got != want || !same(m.Shape(), plain.Shape()) {
					t.Errorf("Kind %d looks at %s: %d, not %d", kind, field, got, want)
				}
			}
			m := full(t, p)
			if got := m.Do(all); got != want || !same(m.Shape(), plain.Shape()) {
				t.Errorf("Kind %d looks at more: %d, not %d", kind, got, want)
			}
		}
	}
}

func TestWhatThereIsNotIsNotDone(t *testing.T) {
	wrong := []struct {
		kinds []int
		field string
		least int // from this number on there is none again
	}{
		{[]int{model.GetState, model.Learn, model.Order, model.SetState, model.Put, model.Get}, "port", 3},
		{[]int{model.Put, model.Get, model.Send}, "to", 3},
		{[]int{model.SetState}, "state", 5},
	}
	p := plans()[2]
	for _, r := range wrong {
		for _, kind := range r.kinds {
			m := full(t, p)
			was := clone(m.Shape())
			for _, n := range []int{-1, -2, -64, r.least, r.least + 1, 63, 64, 255, 256, 1 << 32, -1 << 32, math.MinInt, math.MaxInt} {
				if got := m.Do(wild(right(p, kind), r.field, n)); got != -1 || !same(m.Shape(), was) {
					t.Errorf("Kind %d of %s %d: %d", kind, r.field, n, got)
				}
			}
			if got := m.Do(wild(right(p, kind), r.field, r.least-1)); got == -1 && kind != model.Get {
				t.Errorf("Kind %d of %s %d isn't done", kind, r.field, r.least-1)
			}
		}
	}
	m := full(t, p)
	was := clone(m.Shape())
	for _, kind := range []int{-1, -2, 13, 14, 256, 1<<32 + model.SetState, math.MinInt, math.MaxInt} {
		for like := range 13 {
			o := right(p, like)
			o.Kind = kind
			if got := m.Do(o); got != -1 || !same(m.Shape(), was) {
				t.Errorf("Kind %d, like %d: %d", kind, like, got)
			}
		}
	}
}

// plain is a switch, by the words of the chapter alone: maps of what was set last.
type plain struct {
	p        model.Plan
	state    map[int]int
	times    map[int]int
	in, bare map[[2]int]bool // of VLAN and port
	known    *book.Book
	waits    map[[2]int][]int
}

func newPlain(t *testing.T, p model.Plan) *plain {
	t.Helper()
	x := &plain{p, map[int]int{}, map[int]int{}, map[[2]int]bool{}, map[[2]int]bool{}, nil, map[[2]int][]int{}}
	for _, v := range p.Vlans {
		for i := range p.Ports {
			x.in[[2]int{v.Vid, i}] = v.Members>>i&1 == 1
			x.bare[[2]int{v.Vid, i}] = v.Untagged>>i&1 == 1
		}
	}
	var e api.Errno
	if x.known, e = book.New(p.Size); e != api.OK {
		t.Fatal(e)
	}
	return x
}

func (x *plain) port(i int) bool { return i >= 0 && i < x.p.Ports }

func (x *plain) vlan(vid int) bool {
	return slices.ContainsFunc(x.p.Vlans, func(v vlan.Vlan) bool { return v.Vid == vid })
}

func (x *plain) do(o model.Op) int {
	switch {
	case o.Kind == model.GetState && x.port(o.Port):
		return x.state[o.Port]
	case o.Kind == model.GetMembers:
		sum := uint64(0)
		for i := range x.p.Ports {
			if x.in[[2]int{o.Vid, i}] {
				sum += 1 << i
			}
		}
		return int(sum)
	case o.Kind == model.Learn && x.port(o.Port):
		return x.known.Learn(o.Key, o.Port, o.Now)
	case o.Kind == model.Lookup:
		return x.known.Lookup(o.Key)
	case o.Kind == model.Order && x.port(o.Port):
		return x.known.Order(o.Key, o.Port, o.Now)
	case o.Kind == model.Drop && x.known.Drop(o.Key):
		return 1
	case o.Kind == model.Drop:
		return 0
	case o.Kind == model.Age:
		return x.known.Age(o.Shard, o.Bucket, o.Now, o.Limit)
	case o.Kind == model.Flush:
		return x.known.Flush(bucket.Filter{Port: o.Port, Vid: o.Vid})
	}
	return x.more(o)
}

func (x *plain) more(o model.Op) int {
	two := [2]int{o.Port, o.To}
	switch {
	case o.Kind == model.SetState && x.port(o.Port) && o.State >= 0 && o.State <= 4:
		x.state[o.Port] = o.State
		x.times[o.Port]++
		return x.times[o.Port]
	case o.Kind == model.SetVlan && !x.vlan(o.Vid):
		return 0
	case o.Kind == model.SetVlan:
		for i := range x.p.Ports {
			x.in[[2]int{o.Vid, i}] = o.Members>>i&1 == 1
			x.bare[[2]int{o.Vid, i}] = o.Members>>i&1 == 1 && o.Untagged>>i&1 == 1
		}
		return 1
	case o.Kind == model.Put && x.port(o.Port) && x.port(o.To) && len(x.waits[two]) == x.p.Ring:
		return 0
	case o.Kind == model.Put && x.port(o.Port) && x.port(o.To):
		x.waits[two] = append(x.waits[two], o.Id)
		return 1
	case o.Kind == model.Get && len(x.waits[two]) > 0:
		id := x.waits[two][0]
		x.waits[two] = x.waits[two][1:]
		return id
	case o.Kind == model.Send && x.port(o.To):
		switch at := [2]int{o.Vid, o.To}; {
		case x.state[o.To] != 4:
			return 0
		case !x.in[at]:
			return 1
		case x.bare[at]:
			return 2
		}
		return 3
	}
	return -1
}

func (x *plain) shape() model.Shape {
	var s model.Shape
	for i := range x.p.Ports {
		s.Stands = append(s.Stands, port.Stand{State: x.state[i], Epoch: uint32(x.times[i])})
		var queues [][]int
		for j := range x.p.Ports {
			queues = append(queues, x.waits[[2]int{i, j}])
		}
		s.Queues = append(s.Queues, queues)
	}
	for _, v := range x.p.Vlans {
		w := vlan.Vlan{Vid: v.Vid}
		for i := range x.p.Ports {
			if x.in[[2]int{v.Vid, i}] {
				w.Members = vlan.With(w.Members, i)
			}
			if x.bare[[2]int{v.Vid, i}] {
				w.Untagged = vlan.With(w.Untagged, i)
			}
		}
		s.Vlans = append(s.Vlans, w)
	}
	for i := range x.p.Size.Shards {
		for j := range x.p.Size.Buckets {
			s.Buckets = append(s.Buckets, x.known.Bucket(i, j))
		}
	}
	return s
}

// draws gives numbers, one behind the other, by a seed.
type draws struct{ n uint64 }

func (d *draws) below(n int) int {
	d.n++
	return int(turn.Mix(d.n) % uint64(n))
}

// anyOp is an Op of which all fields are drawn: mostly what there is, at times what there isn't.
func anyOp(d *draws, p model.Plan, now uint32) model.Op {
	stations := p.Size.Shards*p.Size.Buckets*p.Size.Slots + 3
	vid := d.below(6) - 1
	if n := d.below(len(p.Vlans) + 1); n < len(p.Vlans) && d.below(8) > 0 {
		vid = p.Vlans[n].Vid
	}
	near := min(p.Ports, 4) // few, so that rings run full
	o := model.Op{
		Kind: d.below(15) - 1, Port: d.below(near+2) - 1, To: d.below(near+2) - 1, Vid: vid, State: d.below(7) - 1, Key: station(p, d.below(stations)),
		Members: vlan.Set(turn.Mix(d.n)), Untagged: vlan.Set(turn.Mix(d.n + 1<<40)), Now: now, Limit: uint32(d.below(40)),
		Shard: d.below(p.Size.Shards+1) - d.below(12)/11, Bucket: d.below(p.Size.Buckets+1) - d.below(12)/11, Id: d.below(1 << 20),
	}
	switch d.below(40) {
	case 0:
		o.Key = wrongKeys[d.below(len(wrongKeys))]
	case 1:
		o = wild(o, fields[d.below(len(fields))], wildNumbers[d.below(len(wildNumbers))])
	case 2:
		o.Port, o.Vid = -1, -1
	case 3:
		o.Port, o.To = p.Ports-1, p.Ports-1
	case 4:
		o.Key.Mac |= mac.Mac(d.below(2)) << 40
	case 5, 6, 7, 8:
		o.Kind, o.Port, o.To = model.Put, 0, 1
	}
	return o
}

func TestManyOpsAnswerAsAPlainSwitch(t *testing.T) {
	for n, p := range plans() {
		m, x := made(t, p), newPlain(t, p)
		d := &draws{uint64(n+1) << 32}
		now := uint32(math.MaxUint32 - 300)
		seen := map[[2]int]int{}
		for i := range 20000 {
			now += uint32(d.below(2))
			o := anyOp(d, p, now)
			got, want := m.Do(o), x.do(o)
			if got != want {
				t.Fatalf("plan %d: %d: %+v: %d, not %d", n, i, o, got, want)
			}
			seen[[2]int{o.Kind, min(max(got, -1), 1)}]++
			if p.Ports < 10 || i%500 == 0 {
				isAs(t, m, x)
			}
		}
		isAs(t, m, x)
		isOf(t, m, p, x.shape())
		for _, common := range [][2]int{{model.GetState, 1}, {model.GetState, -1}, {model.Learn, 1}, {model.Learn, -1}, {model.Lookup, 1}, {model.Lookup, -1}, {model.Order, 1}, {model.Drop, 1}, {model.Drop, 0}, {model.Flush, 1}, {model.SetState, 1}, {model.SetState, -1}, {model.Put, 1}, {model.Put, 0}, {model.Get, 1}, {model.Get, -1}, {model.Send, 0}, {model.Send, 1}} {
			if seen[common] == 0 {
				t.Errorf("plan %d: Kind %d never answered %d", n, common[0], common[1])
			}
		}
	}
}

func isAs(t *testing.T, m *model.Model, x *plain) {
	t.Helper()
	if got, want := m.Shape(), x.shape(); !same(got, want) {
		t.Fatalf("%+v, not %+v", got, want)
	}
}
