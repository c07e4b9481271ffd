package diary_test

import (
	"slices"
	"testing"

	"patchbay/diary"
	"patchbay/hist"
	"patchbay/model"
)

func TestOneThingBehindTheOther(t *testing.T) {
	first, second, third := model.Op{Kind: model.Learn, Port: 1}, model.Op{Kind: model.Put, Id: 7}, model.Op{Kind: model.GetState}
	d := diary.Of(4)
	is := func(want ...hist.Entry) {
		t.Helper()
		if got := d.List(); !slices.Equal(got, want) {
			t.Errorf("%+v, not %+v", got, want)
		}
	}
	is()
	d.Begin(first, 3)
	is(hist.Entry{Who: 4, Begin: 3, Op: first})
	d.Mark(0)
	is(hist.Entry{Who: 4, Begin: 3, Op: first})
	d.Mark(5)
	is(hist.Entry{Who: 4, Begin: 3, Mark: 5, Op: first})
	d.End(8, 2)
	over := hist.Entry{Who: 4, Begin: 3, Mark: 5, End: 8, Op: first, Answer: 2}
	is(over)
	d.Begin(second, 9)
	is(over, hist.Entry{Who: 4, Begin: 9, Op: second})
	d.Mark(10)
	d.End(10, 1)
	d.Did(third, 11, 12, 3)
	is(over, hist.Entry{Who: 4, Begin: 9, Mark: 10, End: 10, Op: second, Answer: 1}, hist.Entry{Who: 4, Begin: 11, Mark: 12, End: 12, Op: third, Answer: 3})
}

func TestListsAreNewMemory(t *testing.T) {
	d := diary.Of(0)
	d.Did(model.Op{}, 1, 2, 3)
	l := d.List()
	l[0].Answer = 9
	d.Mark(7)
	if d.List()[0].Answer != 3 || l[0].Mark != 2 {
		t.Error(l, d.List())
	}
}

func TestWhereNothingBegan(t *testing.T) {
	var d diary.Diary
	d.Mark(3)
	d.End(4, 5)
	if len(d.List()) != 0 {
		t.Error(d.List())
	}
}
