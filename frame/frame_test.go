package frame_test

import (
	"bytes"
	"math/rand"
	"testing"

	"patchbay/api"
	"patchbay/frame"
	"patchbay/mac"
)

// raw is a frame's bytes, laid by hand: two addresses, what stands behind them, and noughts up to size.
func raw(size int, behind ...byte) []byte {
	b := []byte{0x02, 0x11, 0x22, 0x33, 0x44, 0x55, 0x06, 0xAA, 0xBB, 0xCC, 0xDD, 0xEE}
	b = append(b, behind...)
	for len(b) < size {
		b = append(b, 0)
	}
	return b[:size]
}

const (
	rawDst = mac.Mac(0x021122334455)
	rawSrc = mac.Mac(0x06AABBCCDDEE)
)

// load is n bytes, none of them 0.
func load(n int) []byte {
	b := make([]byte, n)
	for i := range b {
		b[i] = byte(i%255) + 1
	}
	return b
}

func same(f, g frame.Frame) bool {
	return f.Dst == g.Dst && f.Src == g.Src && f.Tagged == g.Tagged && f.Tci == g.Tci && f.Type == g.Type &&
		bytes.Equal(f.Load, g.Load)
}

func none(f frame.Frame) bool { return same(f, frame.Frame{}) }

func TestParse(t *testing.T) {
	rows := []struct {
		name string
		b    []byte
		want frame.Frame
	}{
		{"plain", raw(60, 8, 0, 7, 9), frame.Frame{
			Dst: rawDst, Src: rawSrc, Type: 0x800, Load: append([]byte{7, 9}, make([]byte, 44)...)}},
		{"tagged", raw(60, 0x81, 0, 0xB0, 0x05, 0x86, 0xDD, 7), frame.Frame{
			Dst: rawDst, Src: rawSrc, Tagged: true, Tci: 0xB005, Type: 0x86DD, Load: append([]byte{7}, make([]byte, 41)...)}},
		{"tagged by nought", raw(60, 0x81, 0, 0, 0, 8, 0), frame.Frame{
			Dst: rawDst, Src: rawSrc, Tagged: true, Type: 0x800, Load: make([]byte, 42)}},
		{"two tags", raw(60, 0x81, 0, 0xFF, 0xFF, 0x81, 0, 0, 3, 8), frame.Frame{
			Dst: rawDst, Src: rawSrc, Tagged: true, Tci: 0xFFFF, Type: 0x8100, Load: append([]byte{0, 3, 8}, make([]byte, 39)...)}},
		{"nearly a tag", raw(60, 0x81, 1, 1), frame.Frame{
			Dst: rawDst, Src: rawSrc, Type: 0x8101, Load: append([]byte{1}, make([]byte, 45)...)}},
		{"nearly a tag too", raw(60, 0x80, 0, 1), frame.Frame{
			Dst: rawDst, Src: rawSrc, Type: 0x8000, Load: append([]byte{1}, make([]byte, 45)...)}},
		{"a length of nought", raw(60, 0, 0), frame.Frame{Dst: rawDst, Src: rawSrc, Load: make([]byte, 46)}},
		{"a tag's bytes further behind", raw(60, 8, 0, 0x81, 0), frame.Frame{
			Dst: rawDst, Src: rawSrc, Type: 0x800, Load: append([]byte{0x81, 0}, make([]byte, 44)...)}},
	}
	for _, r := range rows {
		if f, e := frame.Parse(r.b); e != api.OK || !same(f, r.want) {
			t.Errorf("%s: %+v, %d", r.name, f, e)
		}
	}
}

func TestParseErrors(t *testing.T) {
	rows := []struct {
		name string
		b    []byte
		want api.Errno
	}{
		{"59 bytes", raw(59, 8, 0), api.ErrShort},
		{"60 bytes", raw(60, 8, 0), api.OK},
		{"59 bytes with a tag", raw(59, 0x81, 0, 0, 1, 8, 0), api.ErrShort},
		{"60 bytes with a tag", raw(60, 0x81, 0, 0, 1, 8, 0), api.OK},
		{"59 bytes with a Type that isn't", raw(59, 5, 0xDD), api.ErrShort},
		{"12 bytes", raw(12), api.ErrShort},
		{"no bytes", nil, api.ErrShort},
		{"1514 bytes", raw(1514, 8, 0), api.OK},
		{"1515 bytes", raw(1515, 8, 0), api.ErrLong},
		{"1518 bytes", raw(1518, 8, 0), api.ErrLong},
		{"1515 bytes with a tag", raw(1515, 0x81, 0, 0, 1, 8, 0), api.OK},
		{"1518 bytes with a tag", raw(1518, 0x81, 0, 0, 1, 8, 0), api.OK},
		{"1519 bytes with a tag", raw(1519, 0x81, 0, 0, 1, 8, 0), api.ErrLong},
		{"1518 bytes with two tags", raw(1518, 0x81, 0, 0, 1, 0x81, 0), api.OK},
		{"1519 bytes with two tags", raw(1519, 0x81, 0, 0, 1, 0x81, 0), api.ErrLong},
		{"1515 bytes with a Type that isn't", raw(1515, 5, 0xDD), api.ErrLong},
		{"1519 bytes with a tag and a Type that isn't", raw(1519, 0x81, 0, 0, 1, 5, 0xDD), api.ErrLong},
		{"100000 bytes", raw(100000, 8, 0), api.ErrLong},
		{"a length of 46 of 46", raw(60, 0, 46), api.OK},
		{"a length of 47 of 46", raw(60, 0, 47), api.ErrForm},
		{"a length of 45 of 46", raw(60, 0, 45), api.OK},
		{"a length of 42 of 42, with a tag", raw(60, 0x81, 0, 0, 1, 0, 42), api.OK},
		{"a length of 43 of 42, with a tag", raw(60, 0x81, 0, 0, 1, 0, 43), api.ErrForm},
		{"a length of 1500 of 1500", raw(1514, 5, 0xDC), api.OK},
		{"a length of 1500 of 1499", raw(1513, 5, 0xDC), api.ErrForm},
		{"a length of 1500 of 1500, with a tag", raw(1518, 0x81, 0, 0, 1, 5, 0xDC), api.OK},
		{"a length of 1500 of 1499, with a tag", raw(1517, 0x81, 0, 0, 1, 5, 0xDC), api.ErrForm},
		{"Type 1501", raw(1514, 5, 0xDD), api.ErrForm},
		{"Type 1535", raw(1514, 5, 0xFF), api.ErrForm},
		{"Type 1536", raw(1514, 6, 0), api.OK},
		{"Type 1536, short", raw(60, 6, 0), api.OK},
		{"Type 1501, with a tag", raw(1518, 0x81, 0, 0, 1, 5, 0xDD), api.ErrForm},
		{"Type 1535, with a tag", raw(1518, 0x81, 0, 0, 1, 5, 0xFF), api.ErrForm},
		{"Type 1536, with a tag", raw(1518, 0x81, 0, 0, 1, 6, 0), api.OK},
		{"the greatest Type", raw(60, 0xFF, 0xFF), api.OK},
	}
	for _, r := range rows {
		f, e := frame.Parse(r.b)
		if e != r.want || e != api.OK && !none(f) {
			t.Errorf("%s: %d, not %d (%+v)", r.name, e, r.want, f)
		}
		if c, e := frame.Out(r.b, false, 0); e != r.want || e != api.OK && len(c) != 0 {
			t.Errorf("%s: Out without a tag: %d, not %d", r.name, e, r.want)
		}
		if c, e := frame.Out(r.b, true, 1); e != r.want || e != api.OK && len(c) != 0 {
			t.Errorf("%s: Out with a tag: %d, not %d", r.name, e, r.want)
		}
	}
}

// All Types, and all counts of a Load around theirs.
func TestParseOfAllTypes(t *testing.T) {
	for kind := range 0x10000 {
		for _, n := range []int{46, kind - 1, kind, 1500} {
			if n < 46 || n > 1500 || kind == 0x8100 {
				continue
			}
			b := raw(14+n, byte(kind>>8), byte(kind))
			right := kind >= 1536 || kind <= 1500 && kind <= n
			f, e := frame.Parse(b)
			if right != (e == api.OK) || !right && e != api.ErrForm || right && (int(f.Type) != kind || len(f.Load) != n) {
				t.Fatalf("Type %d, %d bytes of Load: %d", kind, n, e)
			}
		}
	}
}

func TestWrite(t *testing.T) {
	rows := []struct {
		name string
		f    frame.Frame
		want []byte
	}{
		{"without Load", frame.Frame{Dst: rawDst, Src: rawSrc, Type: 0x800}, raw(60, 8, 0)},
		{"of zero", frame.Frame{}, make([]byte, 60)},
		{"short", frame.Frame{Dst: rawDst, Src: rawSrc, Type: 0x86DD, Load: []byte{7, 0, 9}}, raw(60, 0x86, 0xDD, 7, 0, 9)},
		{"of just 60 bytes", frame.Frame{Dst: rawDst, Src: rawSrc, Type: 0x800, Load: load(46)}, raw(60, append([]byte{8, 0}, load(46)...)...)},
		{"of 61 bytes", frame.Frame{Dst: rawDst, Src: rawSrc, Type: 0x800, Load: load(47)}, raw(61, append([]byte{8, 0}, load(47)...)...)},
		{"short, with a tag", frame.Frame{Dst: rawDst, Src: rawSrc, Tagged: true, Tci: 0xF123, Type: 0x800, Load: []byte{7}},
			raw(60, 0x81, 0, 0xF1, 0x23, 8, 0, 7)},
		{"with a tag of nought", frame.Frame{Dst: rawDst, Src: rawSrc, Tagged: true, Type: 0x800}, raw(60, 0x81, 0, 0, 0, 8, 0)},
		{"of just 60 bytes, with a tag", frame.Frame{Dst: rawDst, Src: rawSrc, Tagged: true, Tci: 1, Type: 0x800, Load: load(42)},
			raw(60, append([]byte{0x81, 0, 0, 1, 8, 0}, load(42)...)...)},
		{"of 61 bytes, with a tag", frame.Frame{Dst: rawDst, Src: rawSrc, Tagged: true, Tci: 1, Type: 0x800, Load: load(43)},
			raw(61, append([]byte{0x81, 0, 0, 1, 8, 0}, load(43)...)...)},
		{"with two tags", frame.Frame{Dst: rawDst, Src: rawSrc, Tagged: true, Tci: 1, Type: 0x8100, Load: []byte{0, 2}},
			raw(60, 0x81, 0, 0, 1, 0x81, 0, 0, 2)},
		{"the longest", frame.Frame{Dst: rawDst, Src: rawSrc, Type: 1500, Load: load(1500)}, raw(1514, append([]byte{5, 0xDC}, load(1500)...)...)},
		{"the longest with a tag", frame.Frame{Dst: rawDst, Src: rawSrc, Tagged: true, Tci: 1, Type: 1500, Load: load(1500)},
			raw(1518, append([]byte{0x81, 0, 0, 1, 5, 0xDC}, load(1500)...)...)},
	}
	for _, r := range rows {
		if b, e := frame.Write(r.f); e != api.OK || !bytes.Equal(b, r.want) {
			t.Errorf("%s: % x, %d", r.name, b, e)
		}
	}
}

func TestWriteErrors(t *testing.T) {
	const wide = mac.Mac(1) << 48
	rows := []struct {
		name string
		f    frame.Frame
		want api.Errno
	}{
		{"Dst isn't Right", frame.Frame{Dst: wide, Type: 0x800}, api.ErrArg},
		{"Src isn't Right", frame.Frame{Src: wide, Type: 0x800}, api.ErrArg},
		{"the greatest addresses", frame.Frame{Dst: wide - 1, Src: wide - 1, Type: 0x800}, api.OK},
		{"Tci without a tag", frame.Frame{Tci: 1, Type: 0x800}, api.ErrArg},
		{"the highest bit of Tci without a tag", frame.Frame{Tci: 0x8000, Type: 0x800}, api.ErrArg},
		{"Type 81 00 without a tag", frame.Frame{Type: 0x8100}, api.ErrArg},
		{"Type 81 00 with a tag", frame.Frame{Tagged: true, Type: 0x8100}, api.OK},
		{"Dst, ahead of too much Load", frame.Frame{Dst: wide, Type: 0x800, Load: load(1501)}, api.ErrArg},
		{"Src with a tag, ahead of a wrong Type", frame.Frame{Src: wide, Tagged: true, Type: 1501}, api.ErrArg},
		{"Tci, ahead of too much Load", frame.Frame{Tci: 1, Type: 0x800, Load: load(1501)}, api.ErrArg},
		{"Tci, ahead of a wrong Type", frame.Frame{Tci: 1, Type: 1501}, api.ErrArg},
		{"Type 81 00, ahead of too much Load", frame.Frame{Type: 0x8100, Load: load(1501)}, api.ErrArg},
		{"1501 bytes of Load", frame.Frame{Type: 0x800, Load: load(1501)}, api.ErrLong},
		{"1501 bytes of Load, with a tag", frame.Frame{Tagged: true, Type: 0x800, Load: load(1501)}, api.ErrLong},
		{"too much Load, ahead of a wrong Type", frame.Frame{Type: 1501, Load: load(1501)}, api.ErrLong},
		{"a length of 1500 of 1501", frame.Frame{Type: 1500, Load: load(1501)}, api.ErrLong},
		{"a length of 1500 of 1499", frame.Frame{Type: 1500, Load: load(1499)}, api.ErrForm},
		{"a length of 100 of 99, with a tag", frame.Frame{Tagged: true, Type: 100, Load: load(99)}, api.ErrForm},
		{"a length of 100 of 100", frame.Frame{Type: 100, Load: load(100)}, api.OK},
		{"a length of 4 of 3", frame.Frame{Type: 4, Load: load(3)}, api.ErrForm},
		{"a length of 3 of 3", frame.Frame{Type: 3, Load: load(3)}, api.OK},
		{"a length of 1 of none", frame.Frame{Type: 1}, api.ErrForm},
		{"Type 1501", frame.Frame{Type: 1501, Load: load(1500)}, api.ErrForm},
		{"Type 1535", frame.Frame{Type: 1535, Load: load(1500)}, api.ErrForm},
		{"Type 1536", frame.Frame{Type: 1536}, api.OK},
		{"Type 1535, with a tag", frame.Frame{Tagged: true, Type: 1535, Load: load(1500)}, api.ErrForm},
	}
	for _, r := range rows {
		if b, e := frame.Write(r.f); e != r.want || e != api.OK && len(b) != 0 {
			t.Errorf("%s: %d, not %d (%d bytes)", r.name, e, r.want, len(b))
		}
	}
}

func TestVidAndPrio(t *testing.T) {
	for _, tci := range []uint16{0, 1, 0x0FFE, 0x0FFF, 0x1000, 0x1FFF, 0x2000, 0x3005, 0x7FFF, 0x8000, 0xE000, 0xEFFF, 0xF123, 0xFFFF} {
		tagged, plain := frame.Frame{Tagged: true, Tci: tci}, frame.Frame{Tci: tci}
		if v := frame.Vid(tagged); v != int(tci)%4096 {
			t.Errorf("Vid of %x: %d", tci, v)
		}
		if v := frame.Vid(plain); v != int(tci)%4096 {
			t.Errorf("Vid of %x without a tag: %d", tci, v)
		}
		if p := frame.Prio(tagged); p != int(tci)/8192 {
			t.Errorf("Prio of %x: %d", tci, p)
		}
		if p := frame.Prio(plain); p != 0 {
			t.Errorf("Prio of %x without a tag: %d", tci, p)
		}
	}
}

func TestOut(t *testing.T) {
	rows := []struct {
		name   string
		b      []byte
		tagged bool
		vid    int
		want   []byte
	}{
		{"a tag for one that has none", raw(60, 8, 0, 7), true, 5, raw(64, 0x81, 0, 0, 5, 8, 0, 7)},
		{"a tag of the least vid", raw(60, 8, 0, 7), true, 1, raw(64, 0x81, 0, 0, 1, 8, 0, 7)},
		{"a tag of the greatest vid", raw(60, 8, 0, 7), true, 4094, raw(64, 0x81, 0, 0x0F, 0xFE, 8, 0, 7)},
		{"another tag", raw(60, 0x81, 0, 0xBF, 0xFF, 8, 0, 7), true, 0x123, raw(60, 0x81, 0, 0xB1, 0x23, 8, 0, 7)},
		{"another tag of other bits", raw(60, 0x81, 0, 0xBF, 0xFF, 8, 0, 7), true, 0x24C, raw(60, 0x81, 0, 0xB2, 0x4C, 8, 0, 7)},
		{"another tag of all other bits", raw(60, 0x81, 0, 0x4A, 0xAA, 8, 0, 7), true, 0x555, raw(60, 0x81, 0, 0x45, 0x55, 8, 0, 7)},
		{"another tag, with the fourth bit", raw(60, 0x81, 0, 0x10, 0, 8, 0, 7), true, 9, raw(60, 0x81, 0, 0x10, 9, 8, 0, 7)},
		{"a tag for vid 0", raw(60, 0x81, 0, 0xE0, 0, 8, 0, 7), true, 4094, raw(60, 0x81, 0, 0xEF, 0xFE, 8, 0, 7)},
		{"none, as it was", raw(60, 8, 0, 7), false, 5, raw(60, 8, 0, 7)},
		{"none any more: 60 bytes", raw(60, 0x81, 0, 0xB0, 5, 8, 0, 7), false, 5, raw(60, 8, 0, 7)},
		{"none any more: 63 bytes", raw(63, append([]byte{0x81, 0, 0, 5, 8, 0}, load(45)...)...), false, 5, raw(60, append([]byte{8, 0}, load(45)...)...)},
		{"none any more: 64 bytes", raw(64, append([]byte{0x81, 0, 0, 5, 8, 0}, load(46)...)...), false, 5, raw(60, append([]byte{8, 0}, load(46)...)...)},
		{"none any more: 65 bytes", raw(65, append([]byte{0x81, 0, 0, 5, 8, 0}, load(47)...)...), false, 5, raw(61, append([]byte{8, 0}, load(47)...)...)},
		{"the longest gets a tag", raw(1514, append([]byte{5, 0xDC}, load(1500)...)...), true, 7, raw(1518, append([]byte{0x81, 0, 0, 7, 5, 0xDC}, load(1500)...)...)},
		{"the longest loses a tag", raw(1518, append([]byte{0x81, 0, 0, 7, 5, 0xDC}, load(1500)...)...), false, 7, raw(1514, append([]byte{5, 0xDC}, load(1500)...)...)},
		{"the first of two tags is another one", raw(70, 0x81, 0, 0x20, 5, 0x81, 0, 0x40, 6, 8, 0), true, 7, raw(70, 0x81, 0, 0x20, 7, 0x81, 0, 0x40, 6, 8, 0)},
		{"the first of two tags goes", raw(70, 0x81, 0, 0x20, 5, 0x81, 0, 0x40, 6, 8, 0), false, 7, raw(66, 0x81, 0, 0x40, 6, 8, 0)},
	}
	for _, r := range rows {
		if c, e := frame.Out(r.b, r.tagged, r.vid); e != api.OK || !bytes.Equal(c, r.want) {
			t.Errorf("%s: % x, %d", r.name, c, e)
		}
	}
}

func TestOutRefusesVids(t *testing.T) {
	plain, tagged := raw(60, 8, 0), raw(60, 0x81, 0, 0, 1, 8, 0)
	for _, vid := range []int{0, -1, 4095, 4096, 4097, 1 << 16, 1<<16 + 5, 1 << 62, -1 << 63, 1<<63 - 1} {
		for _, b := range [][]byte{plain, tagged} {
			if c, e := frame.Out(b, true, vid); e != api.ErrVlan || len(c) != 0 {
				t.Errorf("vid %d: %d, %d bytes", vid, e, len(c))
			}
			if c, e := frame.Out(b, false, vid); e != api.OK || !bytes.Equal(c, plain) {
				t.Errorf("vid %d, without a tag: %d, %d bytes", vid, e, len(c))
			}
		}
		if _, e := frame.Out(raw(59), true, vid); e != api.ErrShort {
			t.Errorf("vid %d, of 59 bytes: %d", vid, e)
		}
		if _, e := frame.Out(raw(1515, 8, 0), true, vid); e != api.ErrLong {
			t.Errorf("vid %d, of 1515 bytes: %d", vid, e)
		}
		if _, e := frame.Out(raw(60, 5, 0xDD), true, vid); e != api.ErrForm {
			t.Errorf("vid %d, of Type 1501: %d", vid, e)
		}
	}
}

// someFrames are bytes of frames of many forms, short and long, with tags and without.
func someFrames() [][]byte {
	r := rand.New(rand.NewSource(2))
	heads := [][]byte{
		{8, 0}, {0x86, 0xDD}, {6, 0}, {0, 0}, {0, 40}, {0xFF, 0xFF}, {0x81, 1},
		{0x81, 0, 0, 0, 8, 0}, {0x81, 0, 0xF0, 5, 8, 0}, {0x81, 0, 0xAF, 0xFE, 0, 42}, {0x81, 0, 0, 5, 0x81, 0, 8, 0},
	}
	var l [][]byte
	for _, h := range heads {
		for _, n := range []int{60, 61, 63, 64, 65, 100, 1513, 1514, 1515, 1518} {
			if n > 1514 && len(h) == 2 {
				continue
			}
			b := raw(n, h...)
			for i := range 12 {
				b[i] = byte(r.Intn(256))
			}
			for i := 12 + len(h); i < n; i++ {
				b[i] = byte(r.Intn(256))
			}
			l = append(l, b)
		}
	}
	return l
}

func TestWhatIsParsedIsWrittenAsItWas(t *testing.T) {
	for _, b := range someFrames() {
		f, e := frame.Parse(b)
		if e != api.OK {
			t.Fatalf("% x: %d", b[:20], e)
		}
		if c, e := frame.Write(f); e != api.OK || !bytes.Equal(b, c) {
			t.Errorf("% x: % x, %d", b[:20], c, e)
		}
	}
}

func TestWhatIsWrittenIsParsedAsItWas(t *testing.T) {
	for _, tagged := range []bool{false, true} {
		for _, kind := range []uint16{0, 1536, 0x800, 0x8100, 0xFFFF} {
			for _, n := range []int{0, 1, 41, 42, 43, 45, 46, 47, 100, 1499, 1500} {
				f := frame.Frame{Dst: rawSrc, Src: rawDst, Tagged: tagged, Type: kind, Load: load(n)}
				if tagged {
					f.Tci = 0xA7F3
				} else if kind == 0x8100 {
					continue
				}
				b, e := frame.Write(f)
				if e != api.OK {
					t.Fatalf("%+v: %d", f, e)
				}
				g, e := frame.Parse(b)
				if e != api.OK || len(g.Load) < n || len(bytes.Trim(g.Load[n:], "\x00")) > 0 {
					t.Fatalf("%+v: %+v, %d", f, g, e)
				}
				if len(b) > 60 && len(g.Load) != n {
					t.Errorf("%d bytes of Load: %d", n, len(g.Load))
				}
				if g.Load = g.Load[:n]; !same(f, g) {
					t.Errorf("%+v: %+v", f, g)
				}
			}
		}
	}
}

// tail is where a frame's Type begins.
func tail(b []byte) []byte {
	if b[12] == 0x81 && b[13] == 0 {
		return b[16:]
	}
	return b[12:]
}

func TestOutWithATagAndThenWithout(t *testing.T) {
	for _, b := range someFrames() {
		c, e := frame.Out(b, true, 77)
		if e != api.OK {
			t.Fatalf("% x: %d", b[:20], e)
		}
		f, e := frame.Parse(c)
		if e != api.OK || !f.Tagged || frame.Vid(f) != 77 {
			t.Fatalf("% x: %+v, %d", b[:20], f, e)
		}
		d, e := frame.Out(c, false, 0)
		if e != api.OK || len(d) < 60 || !bytes.Equal(d[:12], b[:12]) {
			t.Fatalf("% x: % x, %d", b[:20], d, e)
		}
		kept := tail(b)
		if len(d) < 12+len(kept) || !bytes.Equal(d[12:12+len(kept)], kept) || len(bytes.Trim(d[12+len(kept):], "\x00")) > 0 {
			t.Errorf("% x: % x", b, d)
		}
		if len(d) > 60 && len(d) != 12+len(kept) {
			t.Errorf("%d bytes of %d", len(d), len(kept))
		}
	}
}

// roomy is b's bytes with room behind them, and that room's.
func roomy(b []byte) ([]byte, []byte) {
	all := append(append([]byte(nil), b...), bytes.Repeat([]byte{0xEE}, 100)...)
	return all[:len(b)], all
}

func TestWhatIsHandedInStaysAsItIs(t *testing.T) {
	for _, b := range append(someFrames(), raw(59), raw(1519, 8, 0), raw(60, 5, 0xDD)) {
		given, all := roomy(b)
		before := bytes.Clone(all)
		f, _ := frame.Parse(given)
		c, _ := frame.Out(given, true, 5)
		d, _ := frame.Out(given, false, 0)
		for _, answer := range [][]byte{f.Load, c, d} {
			for i := range answer {
				answer[i] ^= 0xFF
			}
			_ = append(answer, 0xFF)
		}
		if !bytes.Equal(all, before) {
			t.Fatalf("% x: changed", b)
		}
		c, _ = frame.Out(given, true, 5)
		c2, _ := frame.Out(given, true, 5)
		kept := bytes.Clone(c2)
		for i := range given {
			given[i] ^= 0xFF
		}
		for i := range c {
			c[i] ^= 0xFF
		}
		if !bytes.Equal(c2, kept) {
			t.Fatalf("% x: two answers share memory, or one with what was handed in", b)
		}
	}
}

func TestParseAndWriteKeepNothing(t *testing.T) {
	b := raw(80, 8, 0, 1, 2, 3)
	f, _ := frame.Parse(b)
	b[14], b[79] = 99, 99
	if f.Load[0] != 1 || f.Load[65] != 0 {
		t.Error("Load hangs on the bytes that were parsed")
	}
	for _, n := range []int{0, 3, 46, 100} {
		given, all := roomy(load(n))
		before := bytes.Clone(all)
		g := frame.Frame{Dst: rawDst, Src: rawSrc, Tagged: true, Tci: 3, Type: 0x800, Load: given}
		c, _ := frame.Write(g)
		d, _ := frame.Write(g)
		kept := bytes.Clone(d)
		for i := range c {
			c[i] ^= 0xFF
		}
		if !bytes.Equal(all, before) || !bytes.Equal(d, kept) {
			t.Fatalf("%d bytes of Load: changed", n)
		}
		for i := range given {
			given[i] ^= 0xFF
		}
		if !bytes.Equal(d, kept) {
			t.Fatalf("%d bytes of Load: what was written hangs on them", n)
		}
	}
}

// Bytes of all sorts: no call panics, and Out takes just what Parse takes.
func TestAnyBytes(t *testing.T) {
	r := rand.New(rand.NewSource(1))
	for i := range 20000 {
		b := make([]byte, r.Intn(120))
		if i%10 == 0 {
			b = make([]byte, r.Intn(1600))
		}
		r.Read(b)
		if len(b) > 18 && i%3 == 0 {
			copy(b[12:], []byte{0x81, 0, b[14], b[15], byte(r.Intn(8)), b[17]})
		}
		f, e := frame.Parse(b)
		_, e2 := frame.Out(b, i%2 == 0, 1+r.Intn(4094))
		if e != e2 || e != api.OK && !none(f) {
			t.Fatalf("% x: %d, %d", b, e, e2)
		}
		if e != api.OK {
			continue
		}
		if c, e := frame.Write(f); e != api.OK || !bytes.Equal(c, b) {
			t.Fatalf("% x: % x, %d", b, c, e)
		}
	}
}
