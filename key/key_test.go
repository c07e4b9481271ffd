package key_test

import (
	"math"
	"math/big"
	"testing"

	"patchbay/key"
	"patchbay/mac"
	"patchbay/turn"
)

// good are Right keys: at the edges of Vid and of Mac, and some between.
func good() []key.Key {
	var l []key.Key
	for _, vid := range []int{1, 2, 3, 255, 256, 2048, 4093, 4094} {
		for _, m := range []mac.Mac{1, 2, 3, 0x020000000005, 0x0080C2000000, 0x00FFFFFFFFFF, 0x800000000000, 0xFE0000000000, 0xFEFFFFFFFFFF} {
			l = append(l, key.Key{Vid: vid, Mac: m})
		}
	}
	return l
}

// bad are keys that aren't Right.
func bad() []key.Key {
	var l []key.Key
	for _, vid := range []int{0, -1, 4095, 4096, 4097, 1 << 16, 1<<12 + 1, 1<<32 + 1, 1<<48 + 1, math.MinInt, math.MinInt + 1, math.MaxInt} {
		l = append(l, key.Key{Vid: vid, Mac: 2}, key.Key{Vid: vid, Mac: 0x020000000005})
	}
	macs := []mac.Mac{
		0, 0x010000000000, 0x01005E000001, 0x030000000001, 0x0180C2000000, 0x0180C200000F, 0x0180C2000010, 0xFF0000000000, 0xFFFFFFFFFFFE,
		0xFFFFFFFFFFFF, 1 << 48, 1<<48 | 2, 1<<60 | 2, 1<<63 | 2, 0x0001020000000005, 0xFFFF020000000005, math.MaxUint64,
	}
	for _, m := range macs {
		l = append(l, key.Key{Vid: 1, Mac: m}, key.Key{Vid: 4094, Mac: m})
	}
	return append(l, key.Key{}, key.Key{Vid: -1, Mac: math.MaxUint64})
}

func TestRight(t *testing.T) {
	for _, k := range good() {
		if !key.Right(k) {
			t.Errorf("%x isn't Right", k)
		}
	}
	for _, k := range bad() {
		if key.Right(k) {
			t.Errorf("%x is Right", k)
		}
	}
}

func TestWord(t *testing.T) {
	rows := []struct {
		k    key.Key
		want uint64
	}{
		{key.Key{Vid: 1, Mac: 0x020000000005}, 0x1001020000000005}, {key.Key{Vid: 1, Mac: 1}, 0x1001000000000001},
		{key.Key{Vid: 4094, Mac: 0xFEFFFFFFFFFF}, 0x1FFEFEFFFFFFFFFF}, {key.Key{Vid: 256, Mac: 0x0000ABCDEF12}, 0x11000000ABCDEF12},
	}
	for _, r := range rows {
		if got := key.Word(r.k); got != r.want {
			t.Errorf("Word of %x: %x, not %x", r.k, got, r.want)
		}
	}
	for _, k := range good() {
		if got, want := key.Word(k), 1<<60+uint64(k.Vid)*(1<<48)+uint64(k.Mac); got != want {
			t.Errorf("Word of %x: %x, not %x", k, got, want)
		}
	}
	for _, k := range bad() {
		if got := key.Word(k); got != 0 {
			t.Errorf("Word of %x, that isn't Right: %x", k, got)
		}
	}
}

func TestOfIsBack(t *testing.T) {
	for _, k := range good() {
		if got, ok := key.Of(key.Word(k)); got != k || !ok {
			t.Errorf("Of the word of %x: %x, %v", k, got, ok)
		}
	}
}

// wanted is the key of a word, told by quotients and what they leave.
func wanted(w uint64) (key.Key, bool) {
	top, rest := w/(1<<60), w%(1<<60)
	k := key.Key{Vid: int(rest / (1 << 48)), Mac: mac.Mac(rest % (1 << 48))}
	first := rest / (1 << 40) % 256
	if top != 1 || k.Vid == 0 || k.Vid == 4095 || k.Mac == 0 || first%2 == 1 {
		return key.Key{}, false
	}
	return k, true
}

func TestOfOfOtherWords(t *testing.T) {
	words := []uint64{
		0, 1, 1 << 60, 1<<60 | 2, 1<<60 | 1<<48, 1<<60 | 4095<<48 | 2, 1<<60 | 4094<<48 | 2, 1<<48 | 2, 1<<61 | 1<<48 | 2,
		1<<63 | 1<<60 | 1<<48 | 2, 0x1001010000000005, 0x10010180C2000000, 0x1001FFFFFFFFFFFF, 0x1001FEFFFFFFFFFF, math.MaxUint64, 1 << 63, 1<<64 - 2,
	}
	for _, k := range good() {
		for bit := range 64 {
			words = append(words, key.Word(k)^1<<bit)
		}
	}
	for i := range uint64(1000) {
		words = append(words, turn.Mix(i), turn.Mix(i)>>3, 1<<60|turn.Mix(i)>>4, 1<<60|turn.Mix(i)&^(0xF<<60|1<<40))
	}
	right := 0
	for _, w := range words {
		k, ok := wanted(w)
		if got, has := key.Of(w); got != k || has != ok {
			t.Errorf("Of %x: %x, %v", w, got, has)
		}
		if ok {
			right++
			if key.Word(k) != w {
				t.Errorf("Word of %x: %x, not %x", k, key.Word(k), w)
			}
		}
	}
	if right < 1000 || right > len(words)-1000 {
		t.Error("words that are Right keys':", right, "of", len(words))
	}
}

func TestRightKeysHaveWordsOfTheirOwn(t *testing.T) {
	had := map[uint64]key.Key{}
	add := func(k key.Key) {
		w := key.Word(k)
		if other, ok := had[w]; ok && other != k {
			t.Errorf("%x and %x have the word %x", other, k, w)
		}
		if w == 0 {
			t.Errorf("%x has the word 0", k)
		}
		had[w] = k
	}
	for _, k := range good() {
		add(k)
		for bit := range 48 {
			if n := (key.Key{Vid: k.Vid, Mac: k.Mac ^ 1<<bit}); key.Right(n) {
				add(n)
			}
		}
	}
	for vid := 1; vid <= 4094; vid++ {
		add(key.Key{Vid: vid, Mac: 2})
	}
	for _, k := range good() {
		if key.Word(k) != key.Word(key.Key{Vid: k.Vid, Mac: k.Mac}) {
			t.Errorf("%x has two words", k)
		}
	}
}

// wantedPlace is a key's place, told in numbers without a bound.
func wantedPlace(k key.Key, shards, buckets int) (int, int) {
	h := new(big.Int).SetUint64(turn.Mix(1<<60 + uint64(k.Vid)*(1<<48) + uint64(k.Mac)))
	shard := new(big.Int).Mod(h, big.NewInt(int64(shards)))
	high := new(big.Int).Quo(h, big.NewInt(1<<32))
	return int(shard.Int64()), int(high.Mod(high, big.NewInt(int64(buckets))).Int64())
}

func TestPlace(t *testing.T) {
	counts := []int{1, 2, 3, 7, 8, 15, 16, 17, 1000, 1 << 32, 1<<32 + 1, 1<<62 + 1, math.MaxInt}
	for _, k := range good() {
		for _, shards := range counts {
			for _, buckets := range counts {
				s, b := key.Place(k, shards, buckets)
				if ws, wb := wantedPlace(k, shards, buckets); s != ws || b != wb {
					t.Errorf("Place(%x, %d, %d): %d, %d, not %d, %d", k, shards, buckets, s, b, ws, wb)
				}
			}
		}
	}
}

func TestPlaceOfNone(t *testing.T) {
	below := []int{0, -1, -8, math.MinInt}
	for _, k := range good() {
		for _, n := range below {
			for _, other := range []int{0, -1, 1, 3, 16, math.MaxInt} {
				if s, b := key.Place(k, n, other); s != 0 || b != 0 {
					t.Errorf("Place(%x, %d, %d): %d, %d", k, n, other, s, b)
				}
				if s, b := key.Place(k, other, n); s != 0 || b != 0 {
					t.Errorf("Place(%x, %d, %d): %d, %d", k, other, n, s, b)
				}
			}
		}
	}
	for _, k := range bad() {
		for _, n := range []int{1, 8, 1000, math.MaxInt} {
			if s, b := key.Place(k, n, n); s != 0 || b != 0 {
				t.Errorf("Place(%x, %d, %d): %d, %d", k, n, n, s, b)
			}
		}
	}
}
