package hist_test

import (
	"math"
	"slices"
	"testing"

	"patchbay/api"
	"patchbay/book"
	"patchbay/hist"
	"patchbay/key"
	"patchbay/mac"
	"patchbay/model"
	"patchbay/turn"
	"patchbay/vlan"
)

// planOf is a plan of so many ports, that have VLANs 1 to so many, but for one port each.
func planOf(ports, vlans int, size book.Size, ring int) model.Plan {
	p := model.Plan{Ports: ports, Size: size, Tries: 2, Ring: ring, Normal: 300, Short: 15}
	for range ports {
		p.Rules = append(p.Rules, vlan.Rule{Pvid: 1})
	}
	for i := range vlans {
		members := vlan.All(ports) &^ (vlan.Set(1) << (i % ports))
		p.Vlans = append(p.Vlans, vlan.Vlan{Vid: i + 1, Members: members, Untagged: members & 0x5555555555555555})
	}
	return p
}

// plans may be: at the limits, and between.
func plans() []model.Plan {
	return []model.Plan{
		planOf(2, 0, book.Size{Shards: 1, Buckets: 1, Slots: 1}, 1),
		planOf(3, 2, book.Size{Shards: 2, Buckets: 1, Slots: 2}, 2),
		planOf(5, 3, book.Size{Shards: 2, Buckets: 2, Slots: 1}, 3),
		planOf(64, 16, book.Size{Shards: 8, Buckets: 16, Slots: 8}, 64),
	}
}

// seeded is one of plans: seldom the greatest one, whose models take long.
func seeded(seed uint64) model.Plan {
	if seed%10 == 9 {
		return plans()[3]
	}
	return plans()[seed%3]
}

// wrongPlans may not be.
func wrongPlans() map[api.Errno]model.Plan {
	full, twice, noRules := plans()[1], plans()[1], plans()[1]
	full.Vlans = slices.Repeat(full.Vlans, 9)
	twice.Vlans[1].Vid = 1
	noRules.Rules = nil
	return map[api.Errno]model.Plan{api.ErrPort: {}, api.ErrFull: full, api.ErrVlan: twice, api.ErrArg: noRules}
}

// numbers are made one out of another one.
type numbers struct{ seed uint64 }

// below is one of 0 to n - 1.
func (x *numbers) below(n int) int {
	x.seed = turn.Mix(x.seed)
	return int(x.seed >> 1 % uint64(n))
}

// op is an Op of any Kind, and now and then of what there isn't.
func (x *numbers) op(p model.Plan) model.Op {
	ports := min(p.Ports, 5)
	o := model.Op{
		Kind: x.below(13), Port: x.below(ports), To: x.below(ports), Vid: 1 + x.below(3), State: x.below(5),
		Key:     key.Key{Vid: 1 + x.below(2), Mac: mac.Mac(0x020000000000 + 2*x.below(6))},
		Members: vlan.Set(x.below(16)), Untagged: vlan.Set(x.below(16)),
		Now: uint32(x.below(40)), Limit: uint32(x.below(20)),
		Shard: x.below(p.Size.Shards), Bucket: x.below(p.Size.Buckets), Id: x.below(1000),
	}
	switch x.below(30) {
	case 0:
		o.Port = p.Ports
	case 1:
		o.To = -1
	case 2:
		o.Kind = 13 - 14*x.below(2)
	case 3:
		o.State = 5
	case 4:
		o.Key.Vid = 0
	}
	return o
}

// modelOf is a new model.
func modelOf(t *testing.T, p model.Plan) *model.Model {
	t.Helper()
	m, e := model.New(p)
	if e != api.OK {
		t.Fatal(p.Ports, e)
	}
	return m
}

// alone: what somebody did, one thing behind the other, with the model's answers; and the model then.
func alone(t *testing.T, p model.Plan, n int, seed uint64) ([]hist.Entry, *model.Model) {
	t.Helper()
	x, m := &numbers{seed}, modelOf(t, p)
	who, time := x.below(9), x.below(3)
	var l []hist.Entry
	for range n {
		e := hist.Entry{Who: who, Begin: time + x.below(3), Op: x.op(p)}
		e.Mark = e.Begin + 1 + x.below(3)
		e.End = e.Mark + x.below(3)
		e.Answer = m.Do(e.Op)
		time = e.End
		l = append(l, e)
	}
	return l, m
}

// together: what some did at once, with the answers of the model that does it by the Marks; and the model then.
// What each one did stands in order, and that of all of them is mixed.
func together(t *testing.T, p model.Plan, whos, n int, seed uint64) ([]hist.Entry, *model.Model) {
	t.Helper()
	x, m := &numbers{seed}, modelOf(t, p)
	lists := make([][]hist.Entry, whos)
	mark := 0
	for range n {
		i := x.below(whos)
		mark += 1 + x.below(2)
		e := hist.Entry{Who: i - 1, Mark: mark, Op: x.op(p)}
		if did := lists[i]; len(did) > 0 {
			last := &did[len(did)-1]
			last.End = last.Mark + x.below(mark-last.Mark)
			e.Begin = last.End + x.below(mark-last.End)
		} else {
			e.Begin = x.below(mark)
		}
		e.Answer = m.Do(e.Op)
		lists[i] = append(lists[i], e)
	}
	for i, l := range lists {
		if len(l) > 0 && i%3 > 0 { // of each third who the last one isn't over
			l[len(l)-1].End = mark + x.below(9)
		}
	}
	return x.woven(lists), m
}

// woven is one list of all, each one's in order.
func (x *numbers) woven(lists [][]hist.Entry) []hist.Entry {
	var all []hist.Entry
	for left := len(lists); left > 0; {
		i := x.below(len(lists))
		if len(lists[i]) > 0 {
			all = append(all, lists[i][0])
			lists[i] = lists[i][1:]
		}
		left = 0
		for _, l := range lists {
			left += len(l)
		}
	}
	return all
}

// sameLists: have a and b the same lists, in order? (None is one without anything.)
func sameLists[T comparable](a, b [][]T) bool { return slices.EqualFunc(a, b, slices.Equal[[]T]) }

func same(a, b model.Shape) bool {
	return slices.Equal(a.Stands, b.Stands) && slices.Equal(a.Vlans, b.Vlans) && sameLists(a.Buckets, b.Buckets) && slices.EqualFunc(a.Queues, b.Queues, sameLists[int])
}

// plainOrder is what Order should answer, found Mark by Mark.
func plainOrder(l []hist.Entry) []int {
	var places []int
	for mark := 0; ; {
		next := math.MaxInt
		found := false
		for _, e := range l {
			if e.Mark > mark && e.Mark <= next {
				next, found = e.Mark, true
			}
		}
		if !found {
			return places
		}
		mark = next
		for i, e := range l {
			if e.Mark == mark {
				places = append(places, i)
			}
		}
	}
}

// plainReplay is what Replay should answer, of a plan that may be.
func plainReplay(t *testing.T, p model.Plan, l []hist.Entry) (*model.Model, int) {
	t.Helper()
	m := modelOf(t, p)
	var wrong []int
	for _, i := range plainOrder(l) {
		if got := m.Do(l[i].Op); l[i].End != 0 && got != l[i].Answer {
			wrong = append(wrong, i)
		}
	}
	return m, append(wrong, -1)[0]
}

// plainCheck is what Check should answer, of a plan that may be: each word of the chapter by itself.
func plainCheck(t *testing.T, p model.Plan, l []hist.Entry) (int, api.Errno) {
	t.Helper()
	for i, e := range l {
		begin := e.Begin < 0
		mark := e.Mark < 0 || e.Mark > 0 && e.Begin >= e.Mark
		end := e.End < 0 || e.End > 0 && e.End < e.Mark || e.End > 0 && e.Mark == 0
		if begin || mark || end {
			return i, api.ErrForm
		}
	}
	for i, e := range l {
		for _, ahead := range l[:i] {
			if e.Mark > 0 && ahead.Mark == e.Mark {
				return i, api.ErrBusy
			}
			if ahead.Who == e.Who && (ahead.End == 0 || ahead.End > e.Begin) {
				return i, api.ErrBusy
			}
		}
	}
	if _, i := plainReplay(t, p, l); i >= 0 {
		return i, api.ErrState
	}
	return -1, api.OK
}
