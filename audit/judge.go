package audit

import (
	"bytes"
	"cmp"
	"slices"

	"patchbay/api"
	"patchbay/bridge"
	"patchbay/frame"
	"patchbay/hist"
	"patchbay/ingress"
	"patchbay/model"
)

// judgeLog: hist.Check of the ordered Log finds all three faults of a Log: where times and Marks are as they may be, a Replay goes by Marks alone.
func judgeLog(r Report) string {
	l := slices.Clone(r.Log)
	slices.SortStableFunc(l, byWho)
	switch _, e := hist.Check(r.Plan, l); e {
	case api.OK:
		return ""
	case api.ErrForm:
		return "times"
	case api.ErrBusy:
		return "busy"
	}
	return "answers"
}

// byWho: the End, that comes behind Who and Begin, tells nothing more: two of one Who with one Begin are busy in whatever order they stand.
func byWho(a, b hist.Entry) int {
	return cmp.Or(cmp.Compare(a.Who, b.Who), cmp.Compare(a.Begin, b.Begin))
}

func came(r Report, id int) bool { return id >= 0 && id < len(r.Came) }

func isPort(r Report, p int) bool { return p >= 0 && p < r.Plan.Ports }

func hasWrongDone(r Report) bool {
	had := map[int]bool{}
	for _, d := range r.Done {
		if !came(r, d.Id) || had[d.Id] {
			return true
		}
		had[d.Id] = true
	}
	return false
}

// judgeOut looks at all Outs for one fault ahead of the next one.
func judgeOut(r Report) string {
	done := map[int]ingress.Done{}
	for _, d := range r.Done {
		done[d.Id] = d
	}
	switch {
	case slices.ContainsFunc(r.Out, func(o bridge.Out) bool { return isStranger(r, o) }):
		return "stranger"
	case slices.ContainsFunc(r.Out, func(o bridge.Out) bool { return o.From == o.To }):
		return "reflected"
	case slices.ContainsFunc(r.Out, func(o bridge.Out) bool { return done[o.Id].Why != api.Taken }):
		return "refused"
	case slices.ContainsFunc(r.Out, func(o bridge.Out) bool { return wasElsewhere(done, o) }):
		return "found"
	case hasTwice(r.Out):
		return "twice"
	case isOutOfOrder(r.Out):
		return "order"
	case hasWrongBytes(r):
		return "bytes"
	}
	return ""
}

func isStranger(r Report, o bridge.Out) bool {
	return !came(r, o.Id) || o.From != r.Came[o.Id].Port || !isPort(r, o.To)
}

// wasElsewhere: was the destination of an Out's frame found at another port? (Of a frame that isn't over yet it isn't told.)
func wasElsewhere(done map[int]ingress.Done, o bridge.Out) bool {
	d, over := done[o.Id]
	return over && d.Found >= 0 && d.Found != o.To
}

func hasTwice(l []bridge.Out) bool {
	had := map[[2]int]bool{}
	for _, o := range l {
		if had[[2]int{o.Id, o.To}] {
			return true
		}
		had[[2]int{o.Id, o.To}] = true
	}
	return false
}

// isOutOfOrder: Ids of frames that came aren't below 0, so that of a pair without an Out ahead is none's.
func isOutOfOrder(l []bridge.Out) bool {
	greatest := map[[2]int]int{}
	for _, o := range l {
		pair := [2]int{o.From, o.To}
		if o.Id < greatest[pair] {
			return true
		}
		greatest[pair] = o.Id
	}
	return false
}

// hasWrongBytes: has an Out other bytes than what its Send tells of its frame's?
func hasWrongBytes(r Report) bool {
	sends := map[[2]int]hist.Entry{}
	for _, e := range r.Log {
		place := [2]int{e.Op.To, e.Mark}
		if _, had := sends[place]; e.Op.Kind == model.Send && !had {
			sends[place] = e
		}
	}
	return slices.ContainsFunc(r.Out, func(o bridge.Out) bool {
		send, was := sends[[2]int{o.To, o.Mark}]
		return !was || !isOutBy(send, r.Came[o.Id].Bytes, o.Bytes)
	})
}

// isOutBy: are out the bytes of a frame that went out as a Send answers?
func isOutBy(send hist.Entry, came, out []byte) bool {
	if send.Answer != model.Bare && send.Answer != model.Tagged {
		return false
	}
	b, e := frame.Out(came, send.Answer == model.Tagged, send.Op.Vid)
	return e == api.OK && bytes.Equal(b, out)
}
