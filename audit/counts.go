package audit

import (
	"patchbay/bridge"
	"patchbay/model"
)

// tally is how many there are of a pair of ports in a Log, and in Outs.
type tally struct{ offered, full, drained, gets, outs int }

func hasWrongCounts(r Report) bool {
	if len(r.Counts) != r.Plan.Ports {
		return true
	}
	tallies := talliesOf(r)
	for from, counts := range r.Counts {
		if len(counts) != r.Plan.Ports {
			return true
		}
		for to, c := range counts {
			if isWrong(c, tallies[from][to]) {
				return true
			}
		}
	}
	return false
}

// isWrong takes away, and adds nothing up: sums of numbers that somebody told may come round.
func isWrong(c bridge.Counts, t tally) bool {
	if c.Offered != t.offered || c.Full != t.full || c.Drained != t.drained || c.Sent != t.outs {
		return true
	}
	if c.Late < 0 || c.Waits < 0 {
		return true
	}
	late, waiting := t.gets-c.Sent-c.Drained, c.Offered-c.Full-c.Sent-c.Drained // so many at most
	return c.Late > late || c.Late > waiting || c.Waits > waiting-c.Late
}

// talliesOf is the tally of each two ports, from and to.
func talliesOf(r Report) [][]tally {
	ports := r.Plan.Ports
	all := make([][]tally, ports)
	for from := range all {
		all[from] = make([]tally, ports)
	}
	for _, e := range r.Log {
		from, to := e.Op.Port, e.Op.To
		if e.End == 0 || !isPort(r, from) || !isPort(r, to) {
			continue
		}
		t := &all[from][to]
		switch e.Op.Kind {
		case model.Put:
			t.offered++
			t.full += number(e.Answer == 0)
		case model.Get:
			t.gets++
			t.drained += number(e.Who == 2*ports+1)
		}
	}
	for _, o := range r.Out {
		if isPort(r, o.From) && isPort(r, o.To) {
			all[o.From][o.To].outs++
		}
	}
	return all
}

func number(b bool) int {
	if b {
		return 1
	}
	return 0
}
