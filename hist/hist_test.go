package hist_test

import (
	"math"
	"slices"
	"testing"

	"patchbay/api"
	"patchbay/bucket"
	"patchbay/hist"
	"patchbay/key"
	"patchbay/model"
	"patchbay/port"
	"patchbay/vlan"
)

// marked are entries of these Marks.
func marked(marks ...int) []hist.Entry {
	var l []hist.Entry
	for _, mark := range marks {
		l = append(l, hist.Entry{Mark: mark})
	}
	return l
}

func TestOrder(t *testing.T) {
	rows := []struct {
		marks, want []int
	}{
		{nil, nil},
		{[]int{0}, nil},
		{[]int{-1, 0, math.MinInt}, nil},
		{[]int{1}, []int{0}},
		{[]int{math.MaxInt}, []int{0}},
		{[]int{1, 2, 3}, []int{0, 1, 2}},
		{[]int{3, 2, 1}, []int{2, 1, 0}},
		{[]int{7, 0, 9, -3, 8, 1}, []int{5, 0, 4, 2}},
		{[]int{math.MaxInt, 1, math.MinInt, 1 << 32, math.MaxInt - 1, 1<<32 - 1}, []int{1, 5, 3, 4, 0}},
		{[]int{5, 5, 5}, []int{0, 1, 2}},
		{[]int{5, 4, 5, 0, 4, 6, 5}, []int{1, 4, 0, 2, 6, 5}},
	}
	for _, r := range rows {
		if got := hist.Order(marked(r.marks...)); !slices.Equal(got, r.want) {
			t.Errorf("%v: %v, not %v", r.marks, got, r.want)
		}
	}
	if len(hist.Order([]hist.Entry{})) != 0 {
		t.Error("of an empty list")
	}
}

func TestOrderGoesByMarksAndPlacesAlone(t *testing.T) {
	for seed := range uint64(200) {
		x := &numbers{seed}
		var l []hist.Entry
		for range x.below(150) {
			l = append(l, hist.Entry{Who: x.below(3), Begin: x.below(99) - 9, Mark: x.below(1+int(seed)) - 2, End: x.below(99) - 9, Op: x.op(plans()[1]), Answer: x.below(9)})
		}
		if got := hist.Order(l); !slices.Equal(got, plainOrder(l)) {
			t.Errorf("%d: %v, not %v", seed, got, plainOrder(l))
		}
	}
}

// The chapter's example: the Learn of the lesser Mark is New, the other one Moved, or Fresh.
func TestExampleTwoLearns(t *testing.T) {
	for otherPort, other := range []int{bucket.Fresh, bucket.Moved} {
		learn := func(port int, now uint32) model.Op {
			return model.Op{Kind: model.Learn, Key: key.Key{Vid: 1, Mac: 2}, Port: port, Now: now}
		}
		l := []hist.Entry{
			{Who: 0, Begin: 0, Mark: 9, End: 9, Op: learn(otherPort, 1), Answer: other},
			{Who: 1, Begin: 0, Mark: 5, End: 6, Op: learn(0, 0), Answer: bucket.New},
		}
		checks(t, plans()[1], l, -1, api.OK)
		if o := hist.Order(l); !slices.Equal(o, []int{1, 0}) {
			t.Error(o)
		}
		l[0].Answer, l[1].Answer = bucket.New, other
		checks(t, plans()[1], l, 1, api.ErrState)
		l[0].Mark, l[0].End = 4, 4
		l[1].Answer = bucket.New
		checks(t, plans()[1], l, 1, api.ErrState)
	}
}

func checks(t *testing.T, p model.Plan, l []hist.Entry, place int, want api.Errno) {
	t.Helper()
	if i, e := hist.Check(p, l); i != place || e != want {
		t.Errorf("%d, %d, not %d, %d: %+v", i, e, place, want, l[:min(len(l), 8)])
	}
}

// replays: is the model behind l that one, and the first wrong place this one?
func replays(t *testing.T, p model.Plan, l []hist.Entry, m *model.Model, place int) {
	t.Helper()
	got, i := hist.Replay(p, l)
	if got == nil || i != place {
		t.Errorf("%v, %d, not %d", got != nil, i, place)
		return
	}
	if !same(got.Shape(), m.Shape()) {
		t.Errorf("another model: %+v, not %+v", got.Shape(), m.Shape())
	}
}

// set and state are Ops of port 1.
func set(state int) model.Op { return model.Op{Kind: model.SetState, Port: 1, State: state} }

func state() model.Op { return model.Op{Kind: model.GetState, Port: 1} }

func TestReplay(t *testing.T) {
	rows := []struct {
		name  string
		l     []hist.Entry
		want  port.Stand // port 1's
		place int
	}{
		{"nothing", nil, port.Stand{}, -1},
		{"one", []hist.Entry{{Mark: 1, End: 1, Op: set(4), Answer: 1}}, port.Stand{State: 4, Epoch: 1}, -1},
		{"one that hasn't taken effect", []hist.Entry{{Op: set(4), Answer: 7}}, port.Stand{}, -1},
		{"one that hasn't taken effect, over", []hist.Entry{{End: 3, Op: set(4), Answer: 7}}, port.Stand{}, -1},
		{"one of a Mark below 0", []hist.Entry{{Mark: -1, End: 1, Op: set(4), Answer: 7}}, port.Stand{}, -1},
		{"one that isn't over, with any answer", []hist.Entry{{Mark: 1, Op: set(4), Answer: 7}}, port.Stand{State: 4, Epoch: 1}, -1},
		{"a wrong answer", []hist.Entry{{Mark: 1, End: 1, Op: set(4), Answer: 2}}, port.Stand{State: 4, Epoch: 1}, 0},
		{"no answer", []hist.Entry{{Mark: 1, End: 1, Op: set(4)}}, port.Stand{State: 4, Epoch: 1}, 0},
		{"what can't be done", []hist.Entry{{Mark: 1, End: 1, Op: set(5), Answer: -1}, {Mark: 2, End: 2, Op: model.Op{Kind: 13}, Answer: -1}}, port.Stand{}, -1},
		{"by Marks", []hist.Entry{{Mark: 3, End: 3, Op: set(2), Answer: 2}, {Mark: 2, End: 2, Op: set(4), Answer: 1}}, port.Stand{State: 2, Epoch: 2}, -1},
		{"of one Mark by places", []hist.Entry{{Mark: 2, End: 3, Op: set(2), Answer: 1}, {Mark: 2, End: 2, Op: set(4), Answer: 2}}, port.Stand{State: 4, Epoch: 2}, -1},
		{"one between that isn't over", []hist.Entry{{Mark: 1, Op: set(3)}, {Mark: 2, End: 2, Op: state(), Answer: 3}}, port.Stand{State: 3, Epoch: 1}, -1},
		{"one between that hasn't taken effect", []hist.Entry{{Op: set(3)}, {Mark: 2, End: 2, Op: state(), Answer: 0}}, port.Stand{}, -1},
		{"on behind a wrong one", []hist.Entry{{Mark: 1, End: 1, Op: set(4), Answer: 9}, {Mark: 2, End: 2, Op: set(1), Answer: 2}}, port.Stand{State: 1, Epoch: 2}, 0},
		{"the first one by Marks", []hist.Entry{{Mark: 3, End: 3, Op: set(4), Answer: 9}, {Mark: 1, End: 1, Op: state()}, {Mark: 2, End: 4, Op: set(1), Answer: 9}}, port.Stand{State: 4, Epoch: 2}, 2},
		{"of one Mark the first one by places", []hist.Entry{{Mark: 3, End: 3, Op: state()}, {Mark: 3, End: 3, Op: state(), Answer: 9}, {Mark: 3, End: 3, Op: state(), Answer: 9}}, port.Stand{}, 1},
		{"a wrong one behind one that isn't over", []hist.Entry{{Mark: 1, Op: set(4), Answer: 9}, {Mark: 2, End: 2, Op: state(), Answer: 1}}, port.Stand{State: 4, Epoch: 1}, 1},
		{"times that can't be", []hist.Entry{{Begin: -5, Mark: 9, End: 3, Op: set(4), Answer: 1}, {Begin: 99, Mark: 9, End: 8, Op: set(4), Answer: 1}}, port.Stand{State: 4, Epoch: 2}, 1},
		{"an End below 0 isn't 0", []hist.Entry{{Mark: 1, End: -1, Op: set(4), Answer: 2}}, port.Stand{State: 4, Epoch: 1}, 0},
	}
	for _, r := range rows {
		m, i := hist.Replay(plans()[1], r.l)
		if m == nil || i != r.place || m.Stand(1) != r.want {
			t.Errorf("%s: %v, %d, not %d; %+v", r.name, m != nil, i, r.place, m.Stand(1))
		}
	}
}

func TestReplayOfAnyList(t *testing.T) {
	for seed := range uint64(300) {
		x := &numbers{seed}
		p := seeded(seed)
		var l []hist.Entry
		for range x.below(40) {
			l = append(l, hist.Entry{Who: x.below(3), Begin: x.below(9) - 1, Mark: x.below(9) - 1, End: x.below(9) - 1, Op: x.op(p), Answer: x.below(3) - 1})
		}
		m, place := plainReplay(t, p, l)
		replays(t, p, l, m, place)
	}
}

func TestWrongPlans(t *testing.T) {
	good, _ := alone(t, plans()[1], 5, 1)
	bad := []hist.Entry{{Begin: -1}, {Mark: 1, End: 1, Answer: 99}, {Mark: 1, End: 1}}
	for want, p := range wrongPlans() {
		for _, l := range [][]hist.Entry{nil, {}, good, bad} {
			checks(t, p, l, -1, want)
			if m, i := hist.Replay(p, l); m != nil || i != -1 {
				t.Errorf("Replay of a plan that may not be (%d): %v, %d", want, m != nil, i)
			}
		}
	}
	for _, p := range plans() {
		for _, l := range [][]hist.Entry{nil, {}} {
			checks(t, p, l, -1, api.OK)
			replays(t, p, l, modelOf(t, p), -1)
		}
	}
}

// Each of these entries, alone and behind others that are right.
func TestTimes(t *testing.T) {
	const most, least = math.MaxInt, math.MinInt
	rows := []struct {
		begin, mark, end int
		want             api.Errno
	}{
		{0, 0, 0, api.OK}, {5, 0, 0, api.OK}, {most, 0, 0, api.OK},
		{0, 101, 0, api.OK}, {100, 101, 0, api.OK}, {most - 1, most, 0, api.OK}, {0, most, 0, api.OK},
		{0, 101, 101, api.OK}, {0, 101, 102, api.OK}, {100, 101, 101, api.OK}, {most - 1, most, most, api.OK}, {0, 101, most, api.OK},
		{-1, 0, 0, api.ErrForm}, {-1, 101, 101, api.ErrForm}, {least, 0, 0, api.ErrForm}, {least, 101, 0, api.ErrForm},
		{0, -1, 0, api.ErrForm}, {0, -1, 5, api.ErrForm}, {0, least, 0, api.ErrForm}, {-2, -1, 0, api.ErrForm}, {-2, -1, -1, api.ErrForm},
		{101, 101, 101, api.ErrForm}, {101, 101, 0, api.ErrForm}, {102, 101, 0, api.ErrForm}, {102, 101, 103, api.ErrForm}, {most, most, most, api.ErrForm}, {most, 101, 0, api.ErrForm},
		{0, 0, -1, api.ErrForm}, {0, 101, -1, api.ErrForm}, {0, 101, least, api.ErrForm}, {0, 0, least, api.ErrForm},
		{0, 101, 100, api.ErrForm}, {0, 101, 1, api.ErrForm}, {0, most, most - 1, api.ErrForm}, {0, 0, 1, api.ErrForm}, {100, 0, 101, api.ErrForm}, {0, 0, most, api.ErrForm},
	}
	others, _ := together(t, plans()[1], 4, 30, 3)
	for _, r := range rows {
		e := hist.Entry{Who: 77, Begin: r.begin, Mark: r.mark, End: r.end, Op: model.Op{Kind: 13}, Answer: -1}
		for _, n := range []int{0, 1, len(others)} {
			place := n
			if r.want == api.OK {
				place = -1
			}
			checks(t, plans()[1], append(slices.Clone(others[:n]), e), place, r.want)
		}
	}
}

// over is an entry of these times.
func over(who, begin, mark, end int) hist.Entry {
	return hist.Entry{Who: who, Begin: begin, Mark: mark, End: end, Op: state()}
}

func TestBusy(t *testing.T) {
	const most, least = math.MaxInt, math.MinInt
	rows := []struct {
		name  string
		l     []hist.Entry
		place int // -1: none is busy
	}{
		{"one begins as the other one ends", []hist.Entry{over(1, 0, 2, 4), over(1, 4, 5, 5)}, -1},
		{"one begins ahead of the other one's end", []hist.Entry{over(1, 0, 2, 4), over(1, 3, 5, 5)}, 1},
		{"one begins with the other one", []hist.Entry{over(1, 0, 2, 4), over(1, 0, 5, 5)}, 1},
		{"of two whos", []hist.Entry{over(1, 0, 2, 4), over(2, 0, 3, 5)}, -1},
		{"of two whos that are alike but for a sign", []hist.Entry{over(1, 0, 2, 4), over(-1, 0, 3, 5)}, -1},
		{"of the least and the greatest who", []hist.Entry{over(least, 0, 2, 4), over(most, 0, 3, 5), over(0, 1, 6, 7)}, -1},
		{"of the least who twice", []hist.Entry{over(least, 0, 2, 4), over(most, 0, 3, 5), over(least, 1, 6, 7)}, 2},
		{"the earlier one stands behind", []hist.Entry{over(1, 4, 5, 6), over(1, 0, 2, 3)}, 1},
		{"behind one that isn't over", []hist.Entry{over(1, 0, 2, 0), over(1, 9, 10, 11)}, 1},
		{"behind one that hasn't taken effect", []hist.Entry{over(1, 0, 0, 0), over(1, 9, 10, 11)}, 1},
		{"behind one that hasn't taken effect, of another who", []hist.Entry{over(1, 0, 0, 0), over(2, 9, 10, 11)}, -1},
		{"two that haven't taken effect", []hist.Entry{over(1, 0, 0, 0), over(1, 9, 0, 0)}, 1},
		{"many that haven't taken effect, of as many whos", []hist.Entry{over(1, 0, 0, 0), over(2, 0, 0, 0), over(3, 1, 0, 0)}, -1},
		{"one that isn't over behind others", []hist.Entry{over(1, 0, 2, 4), over(1, 4, 6, 0)}, -1},
		{"one that isn't over begins too early", []hist.Entry{over(1, 0, 2, 4), over(1, 3, 6, 0)}, 1},
		{"one that hasn't taken effect behind others", []hist.Entry{over(1, 0, 2, 4), over(1, 4, 0, 0)}, -1},
		{"one that hasn't taken effect begins too early", []hist.Entry{over(1, 0, 2, 4), over(1, 3, 0, 0)}, 1},
		{"till the last time of all", []hist.Entry{over(1, 0, 2, most), over(1, most, 0, 0)}, -1},
		{"not over at the last time of all", []hist.Entry{over(1, 0, 2, 0), over(1, most, 0, 0)}, 1},
		{"just ahead of the last time of all", []hist.Entry{over(1, 0, 2, most), over(1, most-1, 0, 0)}, 1},
		{"with others between", []hist.Entry{over(1, 0, 2, 6), over(2, 0, 3, 3), over(3, 0, 4, 4), over(2, 3, 5, 5), over(1, 5, 9, 9)}, 4},
		{"one Mark", []hist.Entry{over(1, 0, 2, 4), over(2, 0, 2, 4)}, 1},
		{"one Mark, of ones that aren't over", []hist.Entry{over(1, 0, 2, 0), over(2, 1, 2, 0)}, 1},
		{"one Mark, with others between", []hist.Entry{over(1, 0, 2, 4), over(2, 0, 3, 4), over(3, 0, 1, 4), over(4, 0, 2, 2)}, 3},
		{"the greatest Mark twice", []hist.Entry{over(1, 0, most, most), over(2, 0, most, 0)}, 1},
		{"the Mark is another one's Begin and End", []hist.Entry{over(1, 0, 2, 4), over(2, 2, 4, 7), over(3, 0, 7, 9)}, -1},
		{"the first one of several", []hist.Entry{over(1, 0, 2, 4), over(2, 0, 3, 4), over(1, 3, 5, 5), over(3, 0, 2, 4), over(2, 1, 6, 6)}, 2},
		{"one Mark ahead of one who", []hist.Entry{over(1, 0, 2, 4), over(2, 0, 2, 4), over(1, 3, 5, 5)}, 1},
	}
	for _, r := range rows {
		want := api.OK
		if r.place >= 0 {
			want = api.ErrBusy
		}
		if i, e := hist.Check(plans()[1], r.l); i != r.place || e != want {
			t.Errorf("%s: %d, %d, not %d, %d", r.name, i, e, r.place, want)
		}
	}
}

func TestWhichErrorIsFirst(t *testing.T) {
	p := plans()[1]
	wrong := hist.Entry{Who: 1, Begin: 0, Mark: 1, End: 2, Op: state(), Answer: 9}
	busy := hist.Entry{Who: 2, Begin: 0, Mark: 1, End: 2, Op: state()}
	form := hist.Entry{Who: 3, Begin: 7, Mark: 7, End: 7}
	checks(t, p, []hist.Entry{wrong}, 0, api.ErrState)
	checks(t, p, []hist.Entry{wrong, busy}, 1, api.ErrBusy)
	checks(t, p, []hist.Entry{wrong, busy, form}, 2, api.ErrForm)
	checks(t, p, []hist.Entry{wrong, busy, form, {Begin: -1}}, 2, api.ErrForm)
	checks(t, p, []hist.Entry{wrong, busy, {Begin: -1}, form}, 2, api.ErrForm)
	checks(t, wrongPlans()[api.ErrArg], []hist.Entry{wrong, busy, form}, -1, api.ErrArg)
}

// What somebody does alone, with the model's answers, is right; with one answer changed it isn't.
func TestAlone(t *testing.T) {
	kinds, changed := map[int]bool{}, 0
	for seed := range uint64(120) {
		p := seeded(seed)
		l, m := alone(t, p, 1+int(seed%50), seed)
		checks(t, p, l, -1, api.OK)
		replays(t, p, l, m, -1)
		for i := range l {
			kinds[l[i].Op.Kind] = true
			for _, by := range []int{1, -1, 256, math.MinInt} {
				other := slices.Clone(l)
				other[i].Answer += by
				checks(t, p, other, i, api.ErrState)
				changed++
			}
		}
	}
	for kind := -1; kind <= 13; kind++ {
		if !kinds[kind] {
			t.Error("none is of Kind", kind)
		}
	}
	if changed < 10000 {
		t.Error("too few were changed:", changed)
	}
}

// Of the last one, that isn't over, the answer counts for nothing; it is done just if it has a Mark.
func TestAloneTheLastIsNotOver(t *testing.T) {
	for seed := range uint64(60) {
		p := seeded(seed)
		l, m := alone(t, p, 1+int(seed%50), seed)
		last := &l[len(l)-1]
		last.End = 0
		for _, answer := range []int{0, -1, last.Answer, last.Answer + 1, math.MaxInt} {
			last.Answer = answer
			checks(t, p, l, -1, api.OK)
			replays(t, p, l, m, -1)
		}
		ahead, _ := plainReplay(t, p, l[:len(l)-1])
		last.Mark = 0
		checks(t, p, l, -1, api.OK)
		replays(t, p, l, ahead, -1)
	}
}

func TestTogether(t *testing.T) {
	met, open := 0, 0
	for seed := range uint64(200) {
		p := seeded(seed)
		l, m := together(t, p, 1+int(seed%7), 1+int(seed*7%90), seed)
		checks(t, p, l, -1, api.OK)
		replays(t, p, l, m, -1)
		for i, e := range l {
			if i > 0 && l[i-1].Mark > e.Mark {
				met++
			}
			other := slices.Clone(l)
			other[i].Answer++
			if e.End == 0 {
				open++
				checks(t, p, other, -1, api.OK)
				replays(t, p, other, m, -1)
				continue
			}
			checks(t, p, other, i, api.ErrState)
			replays(t, p, other, m, i)
		}
	}
	if met < 500 || open < 100 {
		t.Error("too few met, or weren't over:", met, open)
	}
}

// asTold: Check of l is as the chapter's words, one by one, say; which error is it?
func asTold(t *testing.T, p model.Plan, l []hist.Entry) api.Errno {
	t.Helper()
	place, want := plainCheck(t, p, l)
	checks(t, p, l, place, want)
	return want
}

// allCame: did each error of Check come often?
func allCame(t *testing.T, came map[api.Errno]int) {
	t.Helper()
	for _, e := range []api.Errno{api.OK, api.ErrForm, api.ErrBusy, api.ErrState} {
		if came[e] < 100 {
			t.Errorf("error %d came %d times", e, came[e])
		}
	}
}

// Right histories of which one number is another one, or of which two Ops have changed places, are as the chapter's words, one by one, say.
func TestOneChange(t *testing.T) {
	came := map[api.Errno]int{}
	for seed := range uint64(4000) {
		x := &numbers{seed}
		p := plans()[seed%3]
		l, _ := together(t, p, 1+int(seed%4), 1+int(seed%20), seed)
		e, other := &l[x.below(len(l))], &l[x.below(len(l))]
		by := x.below(7) - 3
		switch x.below(7) {
		case 0:
			e.Who += by
		case 1:
			e.Begin += by
		case 2:
			e.Mark += by
		case 3:
			e.End += by
		case 4:
			e.Mark += 3 * by
			e.End += 3 * by
		case 5:
			e.Answer += by
		case 6:
			e.Op, e.Answer, other.Op, other.Answer = other.Op, other.Answer, e.Op, e.Answer
		}
		came[asTold(t, p, l)]++
	}
	allCame(t, came)
}

// All lists of two entries of small times, and many of more.
func TestSmallTimes(t *testing.T) {
	var all []hist.Entry
	for n := range 2 * 4 * 5 * 5 {
		all = append(all, hist.Entry{Who: n % 2, Begin: n/2%4 - 1, Mark: n/8%5 - 1, End: n/40 - 1, Op: state()})
	}
	p := plans()[0]
	for _, a := range all {
		for _, b := range all {
			a.Op, b.Answer = set(3), 3
			asTold(t, p, []hist.Entry{a, b})
		}
	}
	came := map[api.Errno]int{}
	for seed := range uint64(30000) {
		x := &numbers{seed}
		var l []hist.Entry
		for range 2 + x.below(5) {
			e := hist.Entry{Who: x.below(3), Begin: x.below(12), Op: state(), Answer: x.below(30) / 29}
			e.Mark = e.Begin + 1 + x.below(3)
			e.End = e.Mark + x.below(3)
			switch x.below(30) {
			case 0:
				e.End = 0
			case 1:
				e.Mark, e.End = 0, 0
			case 2:
				e.End = x.below(12)
			}
			l = append(l, e)
		}
		came[asTold(t, p, l)]++
	}
	allCame(t, came)
}

// A long history is gone through in a while that is told by its length, not by its square.
func TestLong(t *testing.T) {
	const rounds, whos = 80, 5000
	p := plans()[1]
	var l []hist.Entry
	for r := range rounds {
		for who := range whos {
			l = append(l, over(who, r*whos, (r+1)*whos-who, (r+1)*whos))
		}
	}
	last := len(l) - 1
	checks(t, p, l, -1, api.OK)
	l[last].Answer = 1
	checks(t, p, l, last, api.ErrState)
	l[last].Mark = l[last-1].Mark
	checks(t, p, l, last, api.ErrBusy)
	l[last].Begin = l[last].Mark
	checks(t, p, l, last, api.ErrForm)
}

// spare is l, with room behind it that holds x.
func spare[T any](l []T, x T) []T { return append(slices.Clone(l), x, x, x)[:len(l)] }

// isSpare: is l, and the room behind it, as spare made it?
func isSpare[T comparable](l, was []T, x T) bool {
	return slices.Equal(l[:len(l)+3], append(slices.Clone(was), x, x, x))
}

func TestWhatIsHandedInIsNotChangedAndNotKept(t *testing.T) {
	for seed := range uint64(40) {
		p := seeded(seed)
		was, _ := together(t, p, 3, 40, seed)
		for _, place := range []int{-1, 7, 20} { // what is right, and what isn't
			if place >= 0 {
				was[place].Answer += 5
			}
			given := p
			given.Rules, given.Vlans = spare(p.Rules, vlan.Rule{Pvid: 9}), spare(p.Vlans, vlan.Vlan{Vid: 999, Members: 1})
			l := spare(was, hist.Entry{Who: 99, Mark: 5})
			m, i := hist.Replay(given, l)
			o := hist.Order(l)
			hist.Check(given, l)
			if !isSpare(l, was, hist.Entry{Who: 99, Mark: 5}) || !isSpare(given.Rules, p.Rules, vlan.Rule{Pvid: 9}) || !isSpare(given.Vlans, p.Vlans, vlan.Vlan{Vid: 999, Members: 1}) {
				t.Fatal("what is handed in was changed")
			}
			clear(l)
			clear(given.Rules)
			clear(given.Vlans)
			want, wrong := plainReplay(t, p, was)
			if !same(m.Shape(), want.Shape()) || i != wrong || !slices.Equal(o, plainOrder(was)) {
				t.Error("what is handed in is kept")
			}
		}
	}
}

func TestAnswersAreNewMemory(t *testing.T) {
	for seed := range uint64(40) {
		p := seeded(seed)
		l, want := together(t, p, 3, 40, seed)
		a, _ := hist.Replay(p, l)
		b, _ := hist.Replay(p, l)
		for state := range 5 {
			a.Do(model.Op{Kind: model.SetState, Port: 1, State: state})
			a.Do(model.Op{Kind: model.SetVlan, Vid: 1})
			a.Do(model.Op{Kind: model.Order, Key: key.Key{Vid: 1, Mac: 2}, Port: 1})
			a.Do(model.Op{Kind: model.Get, Port: 0, To: 1})
			a.Do(model.Op{Kind: model.Put, Port: 1, To: 0, Id: 12345})
		}
		if !same(b.Shape(), want.Shape()) {
			t.Error("two models share something")
		}
		replays(t, p, l, want, -1)
		first, second := hist.Order(l), hist.Order(l)
		for i := range first[:cap(first)] {
			first[:cap(first)][i] = -5
		}
		if !slices.Equal(second, plainOrder(l)) || !slices.Equal(hist.Order(l), second) {
			t.Error("two Orders share something")
		}
	}
}
