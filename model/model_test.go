package model_test

import (
	"math"
	"slices"
	"testing"

	"patchbay/api"
	"patchbay/book"
	"patchbay/bucket"
	"patchbay/key"
	"patchbay/mac"
	"patchbay/model"
	"patchbay/port"
	"patchbay/slot"
	"patchbay/vlan"
)

// rules are n Right ones, of all kinds.
func rules(n int) []vlan.Rule {
	var l []vlan.Rule
	for i := range n {
		l = append(l, vlan.Rule{Pvid: 4094 - i*64, Accept: i % 3})
	}
	return l
}

// vlans are n, of some of so many ports.
func vlans(n, ports int) []vlan.Vlan {
	var l []vlan.Vlan
	for i := range n {
		members := vlan.All(ports) &^ (vlan.Set(1) << (i % ports))
		l = append(l, vlan.Vlan{Vid: 4094 - (n-1-i)*272, Members: members, Untagged: members & 0x5555555555555555})
	}
	return l
}

// plans may be: at the limits, and between.
func plans() []model.Plan {
	return []model.Plan{
		{Ports: 2, Rules: rules(2), Size: book.Size{Shards: 1, Buckets: 1, Slots: 1}, Tries: 1, Ring: 1},
		{Ports: 2, Rules: rules(2), Vlans: vlans(1, 2), Size: book.Size{Shards: 1, Buckets: 1, Slots: 2}, Tries: 8, Ring: 2, Normal: math.MaxUint32},
		{Ports: 3, Rules: rules(3), Vlans: vlans(2, 3), Size: book.Size{Shards: 2, Buckets: 1, Slots: 2}, Tries: 3, Ring: 3, Normal: 300, Short: 15},
		{Ports: 5, Rules: rules(5), Vlans: []vlan.Vlan{{Vid: 1}, {Vid: 2, Members: 31}, {Vid: 9, Members: 6, Untagged: 6}, {Vid: 4094, Members: 16, Untagged: 16}}, Size: book.Size{Shards: 3, Buckets: 2, Slots: 1}, Tries: 2, Ring: 5, Normal: 1, Short: math.MaxUint32},
		{Ports: 63, Rules: rules(63), Vlans: vlans(15, 63), Size: book.Size{Shards: 1, Buckets: 16, Slots: 1}, Tries: 1, Ring: 63},
		{Ports: 64, Rules: rules(64), Vlans: vlans(16, 64), Size: book.Size{Shards: 8, Buckets: 16, Slots: 8}, Tries: 8, Ring: 64, Short: 7},
	}
}

func made(t *testing.T, p model.Plan) *model.Model {
	t.Helper()
	m, e := model.New(p)
	if m == nil || e != api.OK {
		t.Fatal(p.Ports, e)
	}
	return m
}

// station is the key number i, in the VLANs that a plan of some may have, and in one that none has.
func station(p model.Plan, i int) key.Key {
	vid := 77
	if n := i % (len(p.Vlans) + 1); n < len(p.Vlans) {
		vid = p.Vlans[n].Vid
	}
	return key.Key{Vid: vid, Mac: mac.Mac(0x020000000001 + i)}
}

// sameLists: have a and b the same lists, in order? (None is one without anything.)
func sameLists[T comparable](a, b [][]T) bool { return slices.EqualFunc(a, b, slices.Equal[[]T]) }

func same(a, b model.Shape) bool {
	return slices.Equal(a.Stands, b.Stands) && slices.Equal(a.Vlans, b.Vlans) && sameLists(a.Buckets, b.Buckets) && slices.EqualFunc(a.Queues, b.Queues, sameLists[int])
}

// clone is a Shape that shares nothing with another one.
func clone(s model.Shape) model.Shape {
	c := model.Shape{Stands: slices.Clone(s.Stands), Vlans: slices.Clone(s.Vlans)}
	for _, l := range s.Buckets {
		c.Buckets = append(c.Buckets, slices.Clone(l))
	}
	for _, l := range s.Queues {
		var queues [][]int
		for _, q := range l {
			queues = append(queues, slices.Clone(q))
		}
		c.Queues = append(c.Queues, queues)
	}
	return c
}

func TestCheck(t *testing.T) {
	rows := []struct {
		name   string
		change func(p *model.Plan)
		want   api.Errno
	}{
		{"as it is", func(p *model.Plan) {}, api.OK},
		{"no VLANs", func(p *model.Plan) { p.Vlans = nil }, api.OK},
		{"VLANs, empty", func(p *model.Plan) { p.Vlans = []vlan.Vlan{} }, api.OK},
		{"Normal and Short 0", func(p *model.Plan) { p.Normal, p.Short = 0, 0 }, api.OK},
		{"Normal and Short great", func(p *model.Plan) { p.Normal, p.Short = math.MaxUint32, math.MaxUint32 }, api.OK},
		{"Short above Normal", func(p *model.Plan) { p.Normal, p.Short = 3, 4 }, api.OK},
		{"a Pvid of no VLAN", func(p *model.Plan) { p.Rules[1].Pvid = 4000 }, api.OK},
		{"the least of all", func(p *model.Plan) { p.Size, p.Tries, p.Ring = book.Size{Shards: 1, Buckets: 1, Slots: 1}, 1, 1 }, api.OK},
		{"the greatest of all", func(p *model.Plan) { p.Size, p.Tries, p.Ring = book.Size{Shards: 8, Buckets: 16, Slots: 8}, 8, 64 }, api.OK},
		{"16 VLANs", func(p *model.Plan) { p.Vlans = vlans(16, 3) }, api.OK},

		{"one port", func(p *model.Plan) { p.Ports, p.Rules, p.Vlans = 1, rules(1), nil }, api.ErrPort},
		{"no port", func(p *model.Plan) { p.Ports, p.Rules, p.Vlans = 0, nil, nil }, api.ErrPort},
		{"65 ports", func(p *model.Plan) { p.Ports, p.Rules = 65, slices.Repeat(rules(1), 65) }, api.ErrPort},
		{"ports below 0", func(p *model.Plan) { p.Ports = -1 }, api.ErrPort},
		{"the least count of ports", func(p *model.Plan) { p.Ports = math.MinInt }, api.ErrPort},
		{"the greatest count of ports", func(p *model.Plan) { p.Ports = math.MaxInt }, api.ErrPort},
		{"17 VLANs", func(p *model.Plan) { p.Vlans = slices.Repeat(vlans(1, 3), 17) }, api.ErrFull},
		{"a VLAN twice", func(p *model.Plan) { p.Vlans[1].Vid = p.Vlans[0].Vid }, api.ErrVlan},
		{"VLAN 0", func(p *model.Plan) { p.Vlans[0].Vid = 0 }, api.ErrVlan},
		{"VLAN 4095", func(p *model.Plan) { p.Vlans[1].Vid = 4095 }, api.ErrVlan},
		{"a Member that is no port", func(p *model.Plan) { p.Vlans[0].Members |= 8 }, api.ErrPort},
		{"an Untagged one that is no Member", func(p *model.Plan) { p.Vlans[1].Untagged = ^p.Vlans[1].Members & 7 }, api.ErrArg},

		{"no Rules", func(p *model.Plan) { p.Rules = nil }, api.ErrArg},
		{"a Rule too few", func(p *model.Plan) { p.Rules = rules(2) }, api.ErrArg},
		{"a Rule too many", func(p *model.Plan) { p.Rules = rules(4) }, api.ErrArg},
		{"the first Rule without a Pvid", func(p *model.Plan) { p.Rules[0].Pvid = 0 }, api.ErrArg},
		{"the last Rule's Pvid", func(p *model.Plan) { p.Rules[2].Pvid = 4095 }, api.ErrArg},
		{"a Pvid below 0", func(p *model.Plan) { p.Rules[1].Pvid = -1 }, api.ErrArg},
		{"the last Rule's Accept", func(p *model.Plan) { p.Rules[2].Accept = 3 }, api.ErrArg},
		{"an Accept below 0", func(p *model.Plan) { p.Rules[0].Accept = -1 }, api.ErrArg},
		{"no size", func(p *model.Plan) { p.Size = book.Size{} }, api.ErrArg},
		{"no shards", func(p *model.Plan) { p.Size.Shards = 0 }, api.ErrArg},
		{"9 shards", func(p *model.Plan) { p.Size.Shards = 9 }, api.ErrArg},
		{"no buckets", func(p *model.Plan) { p.Size.Buckets = 0 }, api.ErrArg},
		{"17 buckets", func(p *model.Plan) { p.Size.Buckets = 17 }, api.ErrArg},
		{"no slots", func(p *model.Plan) { p.Size.Slots = 0 }, api.ErrArg},
		{"9 slots", func(p *model.Plan) { p.Size.Slots = 9 }, api.ErrArg},
		{"no tries", func(p *model.Plan) { p.Tries = 0 }, api.ErrArg},
		{"9 tries", func(p *model.Plan) { p.Tries = 9 }, api.ErrArg},
		{"the least tries", func(p *model.Plan) { p.Tries = math.MinInt }, api.ErrArg},
		{"the greatest tries", func(p *model.Plan) { p.Tries = math.MaxInt }, api.ErrArg},
		{"no ring", func(p *model.Plan) { p.Ring = 0 }, api.ErrArg},
		{"a ring of 65", func(p *model.Plan) { p.Ring = 65 }, api.ErrArg},
		{"a ring below 0", func(p *model.Plan) { p.Ring = -1 }, api.ErrArg},
		{"the greatest ring", func(p *model.Plan) { p.Ring = math.MaxInt }, api.ErrArg},

		{"ports ahead of all", func(p *model.Plan) { *p = model.Plan{} }, api.ErrPort},
		{"VLANs' count ahead of Rules", func(p *model.Plan) { p.Vlans, p.Rules = slices.Repeat(vlans(1, 3), 17), nil }, api.ErrFull},
		{"VLANs' numbers ahead of Rules", func(p *model.Plan) { p.Vlans[0].Vid, p.Rules = 0, nil }, api.ErrVlan},
		{"VLANs' numbers ahead of the size", func(p *model.Plan) { p.Vlans[0].Vid, p.Size = 0, book.Size{} }, api.ErrVlan},
		{"VLANs' numbers ahead of tries", func(p *model.Plan) { p.Vlans[0].Vid, p.Tries = 0, 0 }, api.ErrVlan},
		{"VLANs' Members ahead of the ring", func(p *model.Plan) { p.Vlans[0].Members, p.Ring = 8, 0 }, api.ErrPort},
	}
	for _, r := range rows {
		p := plans()[2]
		r.change(&p)
		if e := model.Check(p); e != r.want {
			t.Errorf("%s: %d, not %d", r.name, e, r.want)
		}
		m, e := model.New(p)
		if e != r.want || (m != nil) != (e == api.OK) {
			t.Errorf("New: %s: %v, %d, not %d", r.name, m != nil, e, r.want)
		}
	}
}

func TestNewIsAsPlanned(t *testing.T) {
	for _, p := range plans() {
		if e := model.Check(p); e != api.OK {
			t.Fatal(p.Ports, e)
		}
		m := made(t, p)
		var want model.Shape
		for range p.Ports {
			want.Stands = append(want.Stands, port.Stand{State: port.Disabled})
			want.Queues = append(want.Queues, make([][]int, p.Ports))
		}
		want.Vlans = p.Vlans
		for range p.Size.Shards * p.Size.Buckets {
			want.Buckets = append(want.Buckets, make([]bucket.Place, p.Size.Slots))
		}
		if !same(m.Shape(), want) {
			t.Errorf("of %d ports: %+v", p.Ports, m.Shape())
		}
		isOf(t, m, p, want)
	}
}

// isOf: each part of a model tells just what its Shape should; and nothing of what there isn't.
func isOf(t *testing.T, m *model.Model, p model.Plan, want model.Shape) {
	t.Helper()
	for i, s := range want.Stands {
		if m.Stand(i) != s {
			t.Errorf("Stand(%d): %+v, not %+v", i, m.Stand(i), s)
		}
		for j, q := range want.Queues[i] {
			if !slices.Equal(m.Queue(i, j), q) {
				t.Errorf("Queue(%d, %d): %v, not %v", i, j, m.Queue(i, j), q)
			}
		}
	}
	if !slices.Equal(m.Vlans(), want.Vlans) {
		t.Errorf("Vlans: %+v, not %+v", m.Vlans(), want.Vlans)
	}
	var list []slot.Entry
	for i, l := range want.Buckets {
		if got := m.Bucket(i/p.Size.Buckets, i%p.Size.Buckets); !slices.Equal(got, l) {
			t.Errorf("Bucket(%d, %d): %+v, not %+v", i/p.Size.Buckets, i%p.Size.Buckets, got, l)
		}
		for _, x := range l {
			if x.Used {
				list = append(list, x.Entry)
			}
		}
	}
	if !slices.Equal(m.List(), list) {
		t.Errorf("List: %+v, not %+v", m.List(), list)
	}
	hasNothingElse(t, m, p)
}

func hasNothingElse(t *testing.T, m *model.Model, p model.Plan) {
	t.Helper()
	for _, x := range []int{-1, p.Ports, p.Ports + 1, 64, 1 << 32, math.MinInt, math.MaxInt} {
		if m.Stand(x) != (port.Stand{}) || len(m.Queue(x, 0)) != 0 || len(m.Queue(0, x)) != 0 || len(m.Queue(x, x)) != 0 {
			t.Errorf("of port %d: %+v, %v, %v", x, m.Stand(x), m.Queue(x, 0), m.Queue(0, x))
		}
	}
	for _, at := range [][2]int{{-1, 0}, {0, -1}, {p.Size.Shards, 0}, {0, p.Size.Buckets}, {-1, p.Size.Buckets}, {1, -1}, {math.MinInt, 0}, {0, math.MaxInt}} {
		if l := m.Bucket(at[0], at[1]); len(l) != 0 {
			t.Errorf("bucket %v: %+v", at, l)
		}
	}
}

func TestNoModel(t *testing.T) {
	for name, m := range map[string]*model.Model{"nil": nil, "one that New didn't make": {}} {
		for kind := -2; kind <= 14; kind++ {
			for _, o := range []model.Op{{}, {Port: 1, To: 1, Vid: 1, State: 4, Key: key.Key{Vid: 1, Mac: 2}, Members: 3}} {
				o.Kind = kind
				if got := m.Do(o); got != -1 {
					t.Errorf("%s: Do of Kind %d: %d", name, kind, got)
				}
			}
		}
		if !same(m.Shape(), model.Shape{}) || m.Stand(0) != (port.Stand{}) || len(m.Vlans()) != 0 || len(m.List()) != 0 || len(m.Bucket(0, 0)) != 0 || len(m.Queue(0, 0)) != 0 {
			t.Error(name, "has something")
		}
		if c := m.Copy(); c != nil {
			t.Error(name, "has a copy")
		}
	}
}

// full is a model of p with states set, VLANs changed, entries and numbers that wait.
func full(t *testing.T, p model.Plan) *model.Model {
	t.Helper()
	m := made(t, p)
	for i := range p.Ports {
		m.Do(model.Op{Kind: model.SetState, Port: i, State: 4 - i%3})
		for j := range p.Ports {
			for n := range min(p.Ring, (i+j)%4+1) {
				m.Do(model.Op{Kind: model.Put, Port: i, To: j, Id: 100*i + 10*j + n})
			}
		}
	}
	for i := range 2 * p.Size.Shards * p.Size.Buckets * p.Size.Slots {
		o := model.Op{Kind: model.Learn, Key: station(p, i), Port: i % p.Ports, Now: uint32(i)}
		if i%5 == 4 {
			o.Kind = model.Order
		}
		m.Do(o)
	}
	if len(p.Vlans) > 0 {
		m.Do(model.Op{Kind: model.SetVlan, Vid: p.Vlans[0].Vid, Members: 3, Untagged: 2})
	}
	return m
}

// changes are Ops that change a full model of p: of each Kind that can, one at least.
func changes(p model.Plan) []model.Op {
	l := []model.Op{
		{Kind: model.SetState, Port: 1, State: port.Blocking},
		{Kind: model.Get, Port: 0, To: 1}, {Kind: model.Get, Port: 1, To: 1},
		{Kind: model.Put, Port: 0, To: 1, Id: 7777}, {Kind: model.Put, Port: 1, To: 0, Id: 8888},
		{Kind: model.Learn, Key: station(p, 3), Port: 1, Now: 1 << 20}, {Kind: model.Learn, Key: station(p, 1), Port: 0, Now: 1 << 20},
		{Kind: model.Order, Key: station(p, 2), Port: 1},
		{Kind: model.Flush, Port: -1, Vid: -1},
	}
	for i := range 10 {
		l = append(l, model.Op{Kind: model.Drop, Key: station(p, i)})
	}
	l = append(l, model.Op{Kind: model.Age, Now: 1 << 30}, model.Op{Kind: model.Age, Shard: p.Size.Shards - 1, Bucket: p.Size.Buckets - 1, Now: 1 << 30})
	for _, v := range p.Vlans {
		l = append(l, model.Op{Kind: model.SetVlan, Vid: v.Vid, Members: 2})
	}
	return l
}

func TestCopyHasTheSameAndGoesItsOwnWay(t *testing.T) {
	for _, p := range plans() {
		for _, o := range changes(p) {
			m := full(t, p)
			was := clone(m.Shape())
			c := m.Copy()
			if !same(c.Shape(), was) {
				t.Fatalf("of %d ports: a copy has %+v", p.Ports, c.Shape())
			}
			if c.Do(o); !same(m.Shape(), was) {
				t.Errorf("of %d ports: %+v of the copy changed the model", p.Ports, o)
			}
			c = m.Copy()
			if m.Do(o); !same(c.Shape(), was) {
				t.Errorf("of %d ports: %+v of the model changed the copy", p.Ports, o)
			}
			if c.Do(o); !same(c.Shape(), m.Shape()) {
				t.Errorf("of %d ports: %+v: the copy goes another way", p.Ports, o)
			}
		}
	}
}

func TestCopyHasTheSameRoom(t *testing.T) {
	for _, p := range plans() {
		c := made(t, p).Copy()
		o := model.Op{Kind: model.Put, Port: 1, To: 0, Id: 5}
		for i := range p.Ring + 2 {
			want := 0
			if i < p.Ring {
				want = 1
			}
			if got := c.Do(o); got != want {
				t.Errorf("a ring of %d: Put %d of a copy: %d", p.Ring, i, got)
			}
		}
	}
}

// spare is l, with room behind it that holds x.
func spare[T any](l []T, x T) []T {
	return append(slices.Clone(l), x, x, x)[:len(l)]
}

func TestPlanIsNotChangedAndNotKept(t *testing.T) {
	for _, p := range plans() {
		untouched := vlan.Vlan{Vid: 1234, Members: 1, Untagged: 1}
		given := p
		given.Rules = spare(p.Rules, vlan.Rule{Pvid: 9})
		given.Vlans = spare(p.Vlans, untouched)
		if e := model.Check(given); e != api.OK {
			t.Fatal(e)
		}
		m := full(t, given)
		for _, o := range changes(p) {
			m.Do(o)
		}
		if !slices.Equal(given.Rules, p.Rules) || !slices.Equal(given.Vlans, p.Vlans) {
			t.Errorf("of %d ports: the plan was changed", p.Ports)
		}
		for _, v := range given.Vlans[:cap(given.Vlans)][len(given.Vlans) : len(given.Vlans)+3] {
			if v != untouched {
				t.Errorf("of %d ports: the plan's spare room was changed: %+v", p.Ports, v)
			}
		}
		was := clone(m.Shape())
		for i := range given.Vlans {
			given.Vlans[i] = vlan.Vlan{Vid: i + 1}
		}
		for i := range given.Rules {
			given.Rules[i] = vlan.Rule{}
		}
		if !same(m.Shape(), was) {
			t.Errorf("of %d ports: the plan is kept", p.Ports)
		}
	}
}

// spoil writes over all of a list, and over the room behind it.
func spoil[T any](l []T, x T) {
	for i := range l {
		l[i] = x
	}
	_ = append(l, x)
}

func spoilShape(s model.Shape) {
	for _, l := range s.Buckets {
		spoil(l, bucket.Place{Used: true, Entry: slot.Entry{Port: 60}})
	}
	for _, l := range s.Queues {
		for _, q := range l {
			spoil(q, -5)
		}
		spoil(l, []int{-6})
	}
	spoil(s.Stands, port.Stand{State: 9, Epoch: 9})
	spoil(s.Vlans, vlan.Vlan{Vid: 9999})
	spoil(s.Buckets, nil)
	spoil(s.Queues, nil)
}

func TestAnswersAreNewMemory(t *testing.T) {
	for _, p := range plans() {
		m := full(t, p)
		was := clone(m.Shape())
		spoilShape(m.Shape())
		spoil(m.Vlans(), vlan.Vlan{Vid: 9999})
		spoil(m.List(), slot.Entry{Port: 61})
		for i := range p.Size.Shards * p.Size.Buckets {
			spoil(m.Bucket(i/p.Size.Buckets, i%p.Size.Buckets), bucket.Place{Used: true})
		}
		for from := range p.Ports {
			for to := range p.Ports {
				spoil(m.Queue(from, to), -7)
			}
		}
		if !same(m.Shape(), was) {
			t.Errorf("of %d ports: changed from outside", p.Ports)
		}
	}
}

func TestAnswersStayAsTheyWere(t *testing.T) {
	for _, p := range plans() {
		m := full(t, p)
		s, vlans, list, places, queue := m.Shape(), m.Vlans(), m.List(), m.Bucket(0, 0), m.Queue(0, 1)
		was := clone(s)
		entries := slices.Clone(list)
		for _, o := range changes(p) {
			m.Do(o)
		}
		if same(m.Shape(), was) {
			t.Fatalf("of %d ports: nothing was changed", p.Ports)
		}
		if !same(s, was) || !slices.Equal(vlans, was.Vlans) || !slices.Equal(list, entries) || !slices.Equal(places, was.Buckets[0]) || !slices.Equal(queue, was.Queues[0][1]) {
			t.Errorf("of %d ports: an answer changed with the model", p.Ports)
		}
	}
}

// Lists of one answer share nothing either: what is put behind one isn't seen in another one.
func TestListsOfOneShapeShareNothing(t *testing.T) {
	for _, p := range plans() {
		s := full(t, p).Shape()
		was := clone(s)
		for _, l := range s.Buckets {
			_ = append(l, bucket.Place{Used: true, Entry: slot.Entry{Port: 59}})
		}
		for _, l := range s.Queues {
			for _, q := range l {
				_ = append(q, -8)
			}
			_ = append(l, []int{-9})
		}
		if !same(s, was) {
			t.Errorf("of %d ports: two lists share memory", p.Ports)
		}
	}
}
