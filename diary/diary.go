// Package diary keeps what somebody does, one thing behind the other, as a history tells it (layer 18's Entries).
package diary

import (
	"slices"

	"patchbay/hist"
	"patchbay/model"
)

// Diary is what one does; a zero one is who 0's, who hasn't done anything.
type Diary struct {
	who     int
	entries []hist.Entry
}

// Of: one of who that is empty; List: all that is in it, in order.
func Of(who int) Diary { return Diary{who: who} }

func (d *Diary) List() []hist.Entry { return slices.Clone(d.entries) }

// Begin: a thing begins at a time; Mark: the last one that began took effect at a time (0: it hasn't yet); End: it is over, with an answer; Did: a whole one that was over when it took effect.
func (d *Diary) Begin(o model.Op, now int) {
	d.entries = append(d.entries, hist.Entry{Who: d.who, Begin: now, Op: o})
}

func (d *Diary) Mark(mark int) {
	if last := d.last(); last != nil {
		last.Mark = mark
	}
}

func (d *Diary) End(now, answer int) {
	if last := d.last(); last != nil {
		last.End, last.Answer = now, answer
	}
}

func (d *Diary) Did(o model.Op, began, mark, answer int) {
	d.Begin(o, began)
	d.Mark(mark)
	d.End(mark, answer)
}

// last is the entry of the thing that began last; nil: none did.
func (d *Diary) last() *hist.Entry {
	if len(d.entries) == 0 {
		return nil
	}
	return &d.entries[len(d.entries)-1]
}
