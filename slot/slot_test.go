package slot_test

import (
	"math"
	"testing"

	"patchbay/key"
	"patchbay/mac"
	"patchbay/slot"
	"patchbay/turn"
)

var (
	low  = key.Key{Vid: 1, Mac: 1}
	some = key.Key{Vid: 1, Mac: 0x020000000005}
	high = key.Key{Vid: 4094, Mac: 0xFEFFFFFFFFFF}
)

// stamps are ticks at all edges.
var stamps = []uint32{0, 1, 2, 255, 256, 1 << 16, 1<<31 - 1, 1 << 31, math.MaxUint32 - 1, math.MaxUint32}

// good are Right entries.
func good() []slot.Entry {
	var l []slot.Entry
	for _, k := range []key.Key{low, some, high, {Vid: 2, Mac: 0x020000000005}, {Vid: 1, Mac: 0x020000000004}} {
		for _, port := range []int{0, 1, 2, 31, 32, 62, 63} {
			l = append(l, slot.Entry{Key: k, Port: port, Static: true})
			for _, s := range stamps {
				l = append(l, slot.Entry{Key: k, Port: port, Stamp: s})
			}
		}
	}
	return l
}

// bad are entries that aren't Right.
func bad() []slot.Entry {
	var l []slot.Entry
	for _, port := range []int{-1, -64, 64, 65, 255, 256, 257, 1 << 32, 1<<32 + 3, math.MinInt, math.MaxInt} {
		l = append(l, slot.Entry{Key: some, Port: port}, slot.Entry{Key: some, Port: port, Static: true}, slot.Entry{Key: some, Port: port, Stamp: 5})
	}
	for _, s := range stamps[1:] {
		l = append(l, slot.Entry{Key: some, Port: 3, Static: true, Stamp: s}, slot.Entry{Key: high, Static: true, Stamp: s})
	}
	for _, k := range []key.Key{{}, {Vid: 0, Mac: 2}, {Vid: 4095, Mac: 2}, {Vid: -1, Mac: 2}, {Vid: 1}, {Vid: 1, Mac: 0x010000000005}, {Vid: 1, Mac: 1<<48 | 2}, {Vid: 1, Mac: math.MaxUint64}} {
		l = append(l, slot.Entry{Key: k, Port: 3}, slot.Entry{Key: k, Port: 3, Static: true}, slot.Entry{Key: k, Port: 3, Stamp: 9})
	}
	return append(l, slot.Entry{}, slot.Entry{Key: key.Key{Mac: 2}, Port: -1, Static: true, Stamp: 1})
}

func TestRight(t *testing.T) {
	for _, e := range good() {
		if !slot.Right(e) {
			t.Errorf("%+v isn't Right", e)
		}
	}
	for _, e := range bad() {
		if slot.Right(e) {
			t.Errorf("%+v is Right", e)
		}
	}
}

func TestWords(t *testing.T) {
	rows := []struct {
		e    slot.Entry
		a, b uint64
	}{
		{slot.Entry{Key: some, Port: 3, Stamp: 2}, 0x1001020000000005, 0x0000000200000003},
		{slot.Entry{Key: some, Port: 0, Stamp: 0}, 0x1001020000000005, 0},
		{slot.Entry{Key: some, Port: 63, Static: true}, 0x1001020000000005, 0x13F},
		{slot.Entry{Key: high, Port: 63, Stamp: math.MaxUint32}, 0x1FFEFEFFFFFFFFFF, 0xFFFFFFFF0000003F},
		{slot.Entry{Key: low, Static: true}, 0x1001000000000001, 0x100},
	}
	for _, r := range rows {
		if a, b := slot.Words(r.e); a != r.a || b != r.b {
			t.Errorf("Words of %+v: %x, %x, not %x, %x", r.e, a, b, r.a, r.b)
		}
	}
	for _, e := range good() {
		want := uint64(e.Port) + uint64(e.Stamp)*(1<<32)
		if e.Static {
			want += 256
		}
		if a, b := slot.Words(e); a != key.Word(e.Key) || b != want {
			t.Errorf("Words of %+v: %x, %x, not %x", e, a, b, want)
		}
	}
	for _, e := range bad() {
		if a, b := slot.Words(e); a != 0 || b != 0 {
			t.Errorf("Words of %+v, that isn't Right: %x, %x", e, a, b)
		}
	}
}

func TestOfIsBack(t *testing.T) {
	for _, e := range good() {
		if got, ok := slot.Of(slot.Words(e)); got != e || !ok {
			t.Errorf("Of the words of %+v: %+v, %v", e, got, ok)
		}
	}
}

// wanted is the entry of two words, told by quotients and what they leave.
func wanted(a, b uint64) (slot.Entry, bool) {
	k, ok := key.Of(a)
	stamp, rest := b/(1<<32), b%(1<<32)
	port, static := rest%256, rest/256
	if !ok || port > 63 || static > 1 || static == 1 && stamp > 0 {
		return slot.Entry{}, false
	}
	return slot.Entry{Key: k, Port: int(port), Static: static == 1, Stamp: uint32(stamp)}, true
}

func TestOfOfOtherWords(t *testing.T) {
	firsts := []uint64{
		0, 1, key.Word(low), key.Word(some), key.Word(high), 1<<60 | 1<<48, 1<<60 | 2, 1<<60 | 4095<<48 | 2, 1<<48 | 2, 0x1001010000000005,
		key.Word(some) | 1<<61, key.Word(some) | 1<<63, math.MaxUint64,
	}
	seconds := []uint64{0, 63, 64, 65, 127, 128, 255, 256, 256 + 63, 256 + 64, 511, 512, 512 + 3, 1 << 31, 1 << 32, 1<<32 | 256, 1<<63 | 256 | 3, math.MaxUint64}
	for _, e := range good() {
		_, b := slot.Words(e)
		for bit := range 64 {
			seconds = append(seconds, b^1<<bit)
		}
	}
	for i := range uint64(1000) {
		seconds = append(seconds, turn.Mix(i), turn.Mix(i)&(0xFFFFFFFF<<32|0x3F), turn.Mix(i)&0x13F)
	}
	right := 0
	for _, a := range firsts {
		for _, b := range seconds {
			e, ok := wanted(a, b)
			if got, has := slot.Of(a, b); got != e || has != ok {
				t.Errorf("Of %x, %x: %+v, %v", a, b, got, has)
			}
			if ok {
				right++
			}
		}
	}
	if right < 1000 || right > len(firsts)*len(seconds)-1000 {
		t.Error("words that are Right entries':", right)
	}
}

func TestRightEntriesHaveWordsOfTheirOwn(t *testing.T) {
	type words struct{ a, b uint64 }
	had := map[words]slot.Entry{}
	add := func(e slot.Entry) {
		a, b := slot.Words(e)
		if other, ok := had[words{a, b}]; ok && other != e {
			t.Errorf("%+v and %+v have the words %x, %x", other, e, a, b)
		}
		had[words{a, b}] = e
	}
	for _, e := range good() {
		add(e)
	}
	for _, k := range []key.Key{low, some, high} {
		for port := range 64 {
			add(slot.Entry{Key: k, Port: port, Static: true})
			for bit := range 32 {
				add(slot.Entry{Key: k, Port: port, Stamp: 1 << bit})
				add(slot.Entry{Key: k, Port: port, Stamp: math.MaxUint32 ^ 1<<bit})
			}
		}
		for bit := range 48 {
			if n := (key.Key{Vid: k.Vid, Mac: k.Mac ^ mac.Mac(1)<<bit}); key.Right(n) {
				add(slot.Entry{Key: n, Port: 5, Stamp: 7})
			}
		}
	}
	if len(had) < 3*64*65 {
		t.Error("words:", len(had))
	}
}
