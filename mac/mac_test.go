package mac_test

import (
	"bytes"
	"math"
	"testing"

	"patchbay/api"
	"patchbay/mac"
)

// above are bits that no address has: all calls but Right pass over them.
var above = []mac.Mac{1 << 48, 1 << 63, 0xFFFF << 48, 0x0101 << 48}

// some are addresses of all kinds.
var some = []mac.Mac{
	0, 1, 0x020000000001, 0x0123456789AB, 0xFEDCBA987654, 0x0180C2000000, 0x0180C200000E,
	0x0180C2000010, 0x01005E000001, 0xFFFFFFFFFFFE, 0xFFFFFFFFFFFF, 0x00F00F00F00F,
}

func TestOfTakesTheFirstSixBytes(t *testing.T) {
	b := []byte{0x01, 0x23, 0x45, 0x67, 0x89, 0xAB, 0xCD, 0xEF}
	for n := 6; n <= len(b); n++ {
		if m, e := mac.Of(b[:n]); m != 0x0123456789AB || e != api.OK {
			t.Errorf("Of %d bytes: %x, %d", n, uint64(m), e)
		}
	}
	for n := 0; n < 6; n++ {
		if m, e := mac.Of(b[:n]); m != 0 || e != api.ErrShort {
			t.Errorf("Of %d bytes: %x, %d", n, uint64(m), e)
		}
	}
	if m, e := mac.Of(nil); m != 0 || e != api.ErrShort {
		t.Errorf("Of nil: %x, %d", uint64(m), e)
	}
}

func TestBytesStandHighestFirst(t *testing.T) {
	want := []byte{0x01, 0x23, 0x45, 0x67, 0x89, 0xAB}
	if b := mac.Bytes(0x0123456789AB); !bytes.Equal(b, want) {
		t.Errorf("% x", b)
	}
	for _, x := range above {
		if b := mac.Bytes(0x0123456789AB | x); !bytes.Equal(b, want) {
			t.Errorf("with %x above: % x", uint64(x), b)
		}
	}
	if b := mac.Bytes(0); !bytes.Equal(b, make([]byte, 6)) {
		t.Errorf("of 0: % x", b)
	}
}

func TestRight(t *testing.T) {
	for _, m := range some {
		if !mac.Right(m) {
			t.Errorf("%x isn't Right", uint64(m))
		}
		for _, x := range above {
			if mac.Right(m | x) {
				t.Errorf("%x is Right", uint64(m|x))
			}
		}
	}
	if mac.Right(math.MaxUint64) {
		t.Error("all bits: Right")
	}
}

func TestKind(t *testing.T) {
	type row struct {
		m    mac.Mac
		kind int
	}
	rows := []row{
		{0, mac.Unicast}, {2, mac.Unicast}, {0x020000000001, mac.Unicast}, {0xFEFFFFFFFFFF, mac.Unicast},
		{0x0080C2000000, mac.Unicast}, {0x0080C200000F, mac.Unicast},
		{0x010000000000, mac.Group}, {0x01005E000001, mac.Group}, {0x030000000000, mac.Group},
		{0x0180C1FFFFFF, mac.Group}, {0x0180C2000010, mac.Group}, {0x0180C2000100, mac.Group},
		{0x0180C3000000, mac.Group}, {0x0380C2000000, mac.Group}, {0x8180C2000001, mac.Group},
		{0xFFFFFFFFFFFF, mac.Broadcast},
	}
	for i := range mac.Mac(16) {
		rows = append(rows, row{0x0180C2000000 + i, mac.Reserved})
	}
	for i := range 48 {
		kind := mac.Group
		if i == 40 {
			kind = mac.Unicast
		}
		rows = append(rows, row{0xFFFFFFFFFFFF &^ (1 << i), kind})
	}
	for _, r := range rows {
		if k := mac.Kind(r.m); k != r.kind {
			t.Errorf("Kind of %x: %d, not %d", uint64(r.m), k, r.kind)
		}
		for _, x := range above {
			if k := mac.Kind(r.m | x); k != r.kind {
				t.Errorf("Kind of %x: %d, not %d", uint64(r.m|x), k, r.kind)
			}
		}
	}
	if mac.Unicast != 0 || mac.Group != 1 || mac.Broadcast != 2 || mac.Reserved != 3 {
		t.Error("the kinds' numbers")
	}
}

func TestLocalHangsOnOneBit(t *testing.T) {
	for i := range 64 {
		one := mac.Mac(1) << i
		if mac.Local(one) != (i == 41) {
			t.Errorf("bit %d alone: %v", i, mac.Local(one))
		}
		if mac.Local(^one) != (i != 41) {
			t.Errorf("all bits but %d: %v", i, mac.Local(^one))
		}
	}
	if mac.Local(0) {
		t.Error("0 is Local")
	}
}

func TestText(t *testing.T) {
	rows := []struct {
		m    mac.Mac
		text string
	}{
		{0, "00-00-00-00-00-00"},
		{0x0180C200000E, "01-80-c2-00-00-0e"},
		{0x0123456789AB, "01-23-45-67-89-ab"},
		{0xFEDCBA987654, "fe-dc-ba-98-76-54"},
		{0xFFFFFFFFFFFF, "ff-ff-ff-ff-ff-ff"},
	}
	for _, r := range rows {
		if s := mac.Text(r.m); s != r.text {
			t.Errorf("Text of %x: %q", uint64(r.m), s)
		}
		for _, x := range above {
			if s := mac.Text(r.m | x); s != r.text {
				t.Errorf("Text of %x: %q", uint64(r.m|x), s)
			}
		}
		if m, e := mac.Parse(r.text); m != r.m || e != api.OK {
			t.Errorf("Parse of %q: %x, %d", r.text, uint64(m), e)
		}
	}
}

// Each byte at each place of a text: it is one just if Text tells it so.
func TestParseTakesJustSuchTexts(t *testing.T) {
	good := "01-23-45-67-89-ab"
	for i := range len(good) {
		for c := range 256 {
			b := []byte(good)
			b[i] = byte(c)
			s := string(b)
			small := '0' <= c && c <= '9' || 'a' <= c && c <= 'f'
			right := i%3 == 2 && c == '-' || i%3 != 2 && small
			m, e := mac.Parse(s)
			if right && (e != api.OK || mac.Text(m) != s) {
				t.Errorf("%q: %x, %d", s, uint64(m), e)
			}
			if !right && (e != api.ErrForm || m != 0) {
				t.Errorf("%q: %x, %d", s, uint64(m), e)
			}
		}
	}
}

func TestParseRefusesOtherTexts(t *testing.T) {
	bad := []string{
		"", "-", "0", "01", "01-23-45-67-89", "01-23-45-67-89-", "01-23-45-67-89-a", "01-23-45-67-89-ab-",
		"01-23-45-67-89-abc", "01-23-45-67-89-ab-cd", " 01-23-45-67-89-ab", "01-23-45-67-89-ab\n",
		"01:23:45:67:89:ab", "01-23-45-67-89-AB", "0123456789ab", "0123456789abcdef0", "1-23-45-67-89-ab",
		"0x-23-45-67-89-ab", "+1-23-45-67-89-ab", "é-23-45-67-89-ab", "-----------------",
	}
	for _, s := range bad {
		if m, e := mac.Parse(s); m != 0 || e != api.ErrForm {
			t.Errorf("%q: %x, %d", s, uint64(m), e)
		}
	}
}

func TestOfAndBytesTextAndParseUndoEachOther(t *testing.T) {
	l := some
	for i := range 48 {
		l = append(l, 1<<i, 0xFFFFFFFFFFFF&^(1<<i))
	}
	for _, m := range l {
		if n, e := mac.Of(mac.Bytes(m)); n != m || e != api.OK {
			t.Errorf("Of Bytes of %x: %x, %d", uint64(m), uint64(n), e)
		}
		if n, e := mac.Parse(mac.Text(m)); n != m || e != api.OK {
			t.Errorf("Parse of Text of %x: %x, %d", uint64(m), uint64(n), e)
		}
	}
	for i := range 256 {
		b := []byte{byte(i), byte(7 * i), byte(i + 1), byte(255 - i), byte(3 * i), byte(i)}
		m, e := mac.Of(b)
		if e != api.OK || !bytes.Equal(mac.Bytes(m), b) {
			t.Errorf("Bytes of Of % x: % x, %d", b, mac.Bytes(m), e)
		}
	}
}

func TestAnswersAreNewMemory(t *testing.T) {
	given := []byte{1, 2, 3, 4, 5, 6, 7, 8}
	m, _ := mac.Of(given[:6])
	if !bytes.Equal(given, []byte{1, 2, 3, 4, 5, 6, 7, 8}) {
		t.Error("Of changed what it was given:", given)
	}
	first, second := mac.Bytes(m), mac.Bytes(m)
	first[0], first[5] = 0xEE, 0xEE
	want := []byte{1, 2, 3, 4, 5, 6}
	if !bytes.Equal(second, want) || !bytes.Equal(mac.Bytes(m), want) || !bytes.Equal(given[:6], want) {
		t.Error("two answers of Bytes share memory")
	}
}
