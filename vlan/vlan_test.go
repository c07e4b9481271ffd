package vlan_test

import (
	"bytes"
	"math"
	"slices"
	"testing"

	"patchbay/api"
	"patchbay/vlan"
)

// noPorts are numbers that no port of a Set has.
var noPorts = []int{-1, -2, -64, 64, 65, 127, 128, 1 << 32, math.MaxInt, math.MinInt, math.MinInt + 5}

var someSets = []vlan.Set{0, 1, 2, 5, 0xF0, 1 << 31, 1 << 32, 1 << 63, 1<<63 | 1, 0x5555555555555555, math.MaxUint64}

func TestHasWithWithout(t *testing.T) {
	for _, s := range someSets {
		for p := range 64 {
			bit := vlan.Set(1) << p
			if vlan.Has(s, p) != (s&bit != 0) {
				t.Errorf("Has(%x, %d)", uint64(s), p)
			}
			if got := vlan.With(s, p); got != s|bit {
				t.Errorf("With(%x, %d): %x", uint64(s), p, uint64(got))
			}
			if got := vlan.Without(s, p); got != s&^bit {
				t.Errorf("Without(%x, %d): %x", uint64(s), p, uint64(got))
			}
		}
		for _, p := range noPorts {
			if vlan.Has(s, p) || vlan.With(s, p) != s || vlan.Without(s, p) != s {
				t.Errorf("of %x and %d: %v, %x, %x", uint64(s), p, vlan.Has(s, p), uint64(vlan.With(s, p)), uint64(vlan.Without(s, p)))
			}
		}
	}
}

func TestListAndSize(t *testing.T) {
	rows := []struct {
		s    vlan.Set
		list []int
	}{
		{0, nil}, {1, []int{0}}, {6, []int{1, 2}}, {5, []int{0, 2}}, {1 << 63, []int{63}},
		{1<<63 | 1<<32 | 1<<31 | 1, []int{0, 31, 32, 63}},
	}
	for _, r := range rows {
		if l := vlan.List(r.s); !slices.Equal(l, r.list) || vlan.Size(r.s) != len(r.list) {
			t.Errorf("of %x: %v, %d", uint64(r.s), l, vlan.Size(r.s))
		}
	}
	for _, s := range someSets {
		back, l := vlan.Set(0), vlan.List(s)
		for _, p := range l {
			back = vlan.With(back, p)
		}
		if back != s || len(l) != vlan.Size(s) || !slices.IsSorted(l) {
			t.Errorf("of %x: %v, %d", uint64(s), l, vlan.Size(s))
		}
	}
	if vlan.Size(math.MaxUint64) != 64 {
		t.Error("Size of all:", vlan.Size(math.MaxUint64))
	}
}

func TestAll(t *testing.T) {
	for n := range 64 {
		if got := vlan.All(n); got != vlan.Set(1)<<n-1 {
			t.Errorf("All(%d): %x", n, uint64(got))
		}
	}
	for _, n := range []int{64, 65, 100, 128, 1 << 32, math.MaxInt} {
		if got := vlan.All(n); got != math.MaxUint64 {
			t.Errorf("All(%d): %x", n, uint64(got))
		}
	}
	for _, n := range []int{-1, -63, -64, -65, math.MinInt} {
		if got := vlan.All(n); got != 0 {
			t.Errorf("All(%d): %x", n, uint64(got))
		}
	}
}

func TestRight(t *testing.T) {
	rows := []struct {
		r    vlan.Rule
		want bool
	}{
		{vlan.Rule{Pvid: 1, Accept: vlan.Any}, true},
		{vlan.Rule{Pvid: 4094, Accept: vlan.OnlyTagged}, true},
		{vlan.Rule{Pvid: 7, Accept: vlan.OnlyUntagged}, true},
		{vlan.Rule{}, false},
		{vlan.Rule{Pvid: 0, Accept: 1}, false},
		{vlan.Rule{Pvid: -1}, false},
		{vlan.Rule{Pvid: 4095}, false},
		{vlan.Rule{Pvid: 4097}, false},
		{vlan.Rule{Pvid: math.MaxInt}, false},
		{vlan.Rule{Pvid: math.MinInt}, false},
		{vlan.Rule{Pvid: 1, Accept: 3}, false},
		{vlan.Rule{Pvid: 1, Accept: -1}, false},
		{vlan.Rule{Pvid: 1, Accept: math.MaxInt}, false},
		{vlan.Rule{Pvid: 1, Accept: math.MinInt}, false},
		{vlan.Rule{Pvid: 4095, Accept: 3}, false},
	}
	for _, r := range rows {
		if vlan.Right(r.r) != r.want {
			t.Errorf("%+v: %v", r.r, !r.want)
		}
	}
	if vlan.Any != 0 || vlan.OnlyTagged != 1 || vlan.OnlyUntagged != 2 {
		t.Error("the numbers of Accept")
	}
}

// many is n VLANs, of 1 and on.
func many(n int) []vlan.Vlan {
	var l []vlan.Vlan
	for i := range n {
		l = append(l, vlan.Vlan{Vid: i + 1, Members: 3, Untagged: 1})
	}
	return l
}

func TestCheck(t *testing.T) {
	rows := []struct {
		name  string
		l     []vlan.Vlan
		ports int
		want  api.Errno
	}{
		{"no VLANs", nil, 2, api.OK},
		{"no VLANs, empty", []vlan.Vlan{}, 64, api.OK},
		{"no port", nil, 0, api.ErrPort},
		{"one port", nil, 1, api.ErrPort},
		{"65 ports", nil, 65, api.ErrPort},
		{"ports below 0", nil, -1, api.ErrPort},
		{"the least count of ports", nil, math.MinInt, api.ErrPort},
		{"the greatest count of ports", nil, math.MaxInt, api.ErrPort},
		{"16 VLANs", many(16), 2, api.OK},
		{"17 VLANs", many(17), 2, api.ErrFull},
		{"17 VLANs, one port", many(17), 1, api.ErrPort},
		{"17 VLANs, of a wrong Vid", append([]vlan.Vlan{{Vid: -1}}, many(16)...), 2, api.ErrFull},
		{"a wrong Vid, one port", []vlan.Vlan{{Vid: 0}}, 1, api.ErrPort},
		{"the least and the greatest Vid", []vlan.Vlan{{Vid: 1}, {Vid: 4094}}, 2, api.OK},
		{"Vid 0", []vlan.Vlan{{Vid: 0}}, 2, api.ErrVlan},
		{"Vid below 0", []vlan.Vlan{{Vid: -5}}, 2, api.ErrVlan},
		{"the least number as Vid", []vlan.Vlan{{Vid: math.MinInt}}, 2, api.ErrVlan},
		{"Vid 4095", []vlan.Vlan{{Vid: 4095}}, 2, api.ErrVlan},
		{"Vid 4095 behind", []vlan.Vlan{{Vid: 4094}, {Vid: 4095}}, 2, api.ErrVlan},
		{"a Vid twice", []vlan.Vlan{{Vid: 5}, {Vid: 5}}, 2, api.ErrVlan},
		{"a Vid below the one ahead", []vlan.Vlan{{Vid: 5}, {Vid: 4}}, 2, api.ErrVlan},
		{"a Vid that isn't above the one just ahead", []vlan.Vlan{{Vid: 1}, {Vid: 5}, {Vid: 3}}, 2, api.ErrVlan},
		{"all Members of 2", []vlan.Vlan{{Vid: 1, Members: 3, Untagged: 3}}, 2, api.OK},
		{"a Member too many", []vlan.Vlan{{Vid: 1, Members: 4}}, 2, api.ErrPort},
		{"a Member too many among others", []vlan.Vlan{{Vid: 1, Members: 7}}, 2, api.ErrPort},
		{"the last Member of 63", []vlan.Vlan{{Vid: 1, Members: 1 << 62}}, 63, api.OK},
		{"a Member too many of 63", []vlan.Vlan{{Vid: 1, Members: 1 << 63}}, 63, api.ErrPort},
		{"all Members of 64", []vlan.Vlan{{Vid: 1, Members: math.MaxUint64, Untagged: math.MaxUint64}}, 64, api.OK},
		{"one Untagged that is no Member", []vlan.Vlan{{Vid: 1, Members: 1, Untagged: 2}}, 2, api.ErrArg},
		{"one Untagged of none", []vlan.Vlan{{Vid: 1, Untagged: 1}}, 2, api.ErrArg},
		{"one Untagged that is no port", []vlan.Vlan{{Vid: 1, Members: 3, Untagged: 4}}, 2, api.ErrArg},
		{"Vid ahead of Members", []vlan.Vlan{{Vid: 0, Members: 4}}, 2, api.ErrVlan},
		{"Vid ahead of Untagged", []vlan.Vlan{{Vid: 4095, Untagged: 1}}, 2, api.ErrVlan},
		{"the order of Vids ahead of Members", []vlan.Vlan{{Vid: 2}, {Vid: 2, Members: 4}}, 2, api.ErrVlan},
		{"Members ahead of Untagged", []vlan.Vlan{{Vid: 1, Members: 4, Untagged: 1}}, 2, api.ErrPort},
		{"the first VLAN's Untagged ahead of the second one's Vid", []vlan.Vlan{{Vid: 2, Untagged: 1}, {Vid: 1}}, 2, api.ErrArg},
		{"the first VLAN's Members ahead of the second one's Vid", []vlan.Vlan{{Vid: 2, Members: 4}, {Vid: 2}}, 2, api.ErrPort},
		{"the second VLAN's Untagged ahead of the third one's Members", []vlan.Vlan{{Vid: 1}, {Vid: 2, Untagged: 1}, {Vid: 3, Members: 4}}, 2, api.ErrArg},
		{"the last of 16", append(many(15), vlan.Vlan{Vid: 99, Untagged: 1}), 2, api.ErrArg},
	}
	for _, r := range rows {
		if e := vlan.Check(r.l, r.ports); e != r.want {
			t.Errorf("%s: %d, not %d", r.name, e, r.want)
		}
	}
	for ports := 2; ports <= 64; ports++ {
		if e := vlan.Check([]vlan.Vlan{{Vid: 1, Members: vlan.All(ports)}}, ports); e != api.OK {
			t.Errorf("%d ports: %d", ports, e)
		}
	}
}

func TestFind(t *testing.T) {
	l := []vlan.Vlan{{Vid: 3}, {Vid: 9}, {Vid: 3, Members: 1}, {Vid: -7}, {Vid: 0}, {Vid: 5000}}
	rows := []struct{ vid, want int }{
		{3, 0}, {9, 1}, {-7, 3}, {0, 4}, {5000, 5}, {4, -1}, {1, -1}, {-1, -1}, {math.MaxInt, -1}, {math.MinInt, -1},
	}
	for _, r := range rows {
		if i := vlan.Find(l, r.vid); i != r.want {
			t.Errorf("Find of %d: %d", r.vid, i)
		}
		if i := vlan.Find(nil, r.vid); i != -1 {
			t.Errorf("Find of %d in none: %d", r.vid, i)
		}
	}
}

const (
	station  = 0x020000000001
	other    = 0x040000000002
	group    = 0x01005E000001
	all      = 0xFFFFFFFFFFFF
	reserved = 0x0180C200000E
)

// bare is a frame of size bytes without a tag, laid by hand.
func bare(size int, dst, src uint64, kind uint16) []byte {
	b := make([]byte, max(size, 14))
	for i := range 6 {
		b[i], b[6+i] = byte(dst>>(40-8*i)), byte(src>>(40-8*i))
	}
	b[12], b[13] = byte(kind>>8), byte(kind)
	return b[:size]
}

// tagged is likewise one with a tag.
func tagged(size int, dst, src uint64, tci, kind uint16) []byte {
	b := bare(max(size, 18), dst, src, 0x8100)
	b[14], b[15], b[16], b[17] = byte(tci>>8), byte(tci), byte(kind>>8), byte(kind)
	return b[:size]
}

func TestClassTellsTheVlan(t *testing.T) {
	plain := bare(60, other, station, 0x800)
	rows := []struct {
		name   string
		b      []byte
		accept int
		vid    int
		why    api.Why
	}{
		{"no tag", plain, vlan.Any, 7, api.Taken},
		{"no tag", plain, vlan.OnlyTagged, 0, api.Tag},
		{"no tag", plain, vlan.OnlyUntagged, 7, api.Taken},
		{"no tag", plain, 3, 7, api.Taken},
		{"no tag", plain, -1, 7, api.Taken},
		{"no tag", plain, math.MaxInt, 7, api.Taken},
		{"no tag", plain, math.MinInt, 7, api.Taken},
		{"vid 0", tagged(60, other, station, 0, 0x800), vlan.Any, 7, api.Taken},
		{"vid 0", tagged(60, other, station, 0, 0x800), vlan.OnlyTagged, 0, api.Tag},
		{"vid 0", tagged(60, other, station, 0, 0x800), vlan.OnlyUntagged, 7, api.Taken},
		{"vid 0 of a priority", tagged(60, other, station, 0xF000, 0x800), vlan.Any, 7, api.Taken},
		{"vid 0 of a priority", tagged(60, other, station, 0xF000, 0x800), vlan.OnlyTagged, 0, api.Tag},
		{"vid 0 of a priority", tagged(60, other, station, 0xF000, 0x800), vlan.OnlyUntagged, 7, api.Taken},
		{"vid 1", tagged(60, other, station, 1, 0x800), vlan.Any, 1, api.Taken},
		{"vid 1", tagged(60, other, station, 1, 0x800), vlan.OnlyTagged, 1, api.Taken},
		{"vid 1", tagged(60, other, station, 1, 0x800), vlan.OnlyUntagged, 0, api.Tag},
		{"vid 1", tagged(60, other, station, 1, 0x800), 3, 1, api.Taken},
		{"vid 1", tagged(60, other, station, 1, 0x800), -1, 1, api.Taken},
		{"vid 291 of a priority", tagged(60, other, station, 0xB123, 0x800), vlan.OnlyTagged, 0x123, api.Taken},
		{"vid 4094", tagged(60, other, station, 4094, 0x800), vlan.Any, 4094, api.Taken},
		{"vid 4095", tagged(60, other, station, 4095, 0x800), vlan.Any, 0, api.Vlan},
		{"vid 4095", tagged(60, other, station, 4095, 0x800), vlan.OnlyTagged, 0, api.Vlan},
		{"vid 4095", tagged(60, other, station, 4095, 0x800), vlan.OnlyUntagged, 0, api.Tag},
		{"vid 4095", tagged(60, other, station, 0xFFFF, 0x800), 3, 0, api.Vlan},
		{"two tags", tagged(60, other, station, 5, 0x8100), vlan.Any, 5, api.Taken},
		{"for a group", bare(60, group, station, 0x800), vlan.Any, 7, api.Taken},
		{"for all", bare(60, all, station, 0x800), vlan.Any, 7, api.Taken},
		{"for itself", bare(60, station, station, 0x800), vlan.Any, 7, api.Taken},
		{"from 0", bare(60, other, 0, 0x800), vlan.Any, 7, api.Taken},
	}
	for _, r := range rows {
		if v, w := vlan.Class(r.b, vlan.Rule{Pvid: 7, Accept: r.accept}); v != r.vid || w != r.why {
			t.Errorf("%s, by %d: %d, %d, not %d, %d", r.name, r.accept, v, w, r.vid, r.why)
		}
	}
}

func TestClassTakesThePvidAsItIs(t *testing.T) {
	for _, pvid := range []int{1, 4094, 0, -3, 4095, 5000, math.MaxInt, math.MinInt} {
		r := vlan.Rule{Pvid: pvid}
		if v, w := vlan.Class(bare(60, other, station, 0x800), r); v != pvid || w != api.Taken {
			t.Errorf("Pvid %d: %d, %d", pvid, v, w)
		}
		if v, w := vlan.Class(tagged(60, other, station, 9, 0x800), r); v != 9 || w != api.Taken {
			t.Errorf("Pvid %d, with a tag: %d, %d", pvid, v, w)
		}
		if v, w := vlan.Class(tagged(60, other, station, 4095, 0x800), r); v != 0 || w != api.Vlan {
			t.Errorf("Pvid %d, with a tag of 4095: %d, %d", pvid, v, w)
		}
	}
}

func TestClassSaysWhyNot(t *testing.T) {
	rows := []struct {
		name   string
		b      []byte
		accept int
		why    api.Why
	}{
		{"no bytes", nil, vlan.Any, api.Short},
		{"59 bytes", bare(59, other, station, 0x800), vlan.Any, api.Short},
		{"59 bytes, of all else", bare(59, reserved, group, 1501), vlan.OnlyTagged, api.Short},
		{"1515 bytes", bare(1515, other, station, 0x800), vlan.Any, api.Long},
		{"1514 bytes", bare(1514, other, station, 0x800), vlan.Any, api.Taken},
		{"1518 bytes with a tag", tagged(1518, other, station, 1, 0x800), vlan.Any, api.Taken},
		{"1519 bytes with a tag", tagged(1519, other, station, 1, 0x800), vlan.Any, api.Long},
		{"1515 bytes, of all else", bare(1515, reserved, group, 1501), vlan.OnlyTagged, api.Long},
		{"Type 1501", bare(60, other, station, 1501), vlan.Any, api.Form},
		{"a length that is too great", bare(60, other, station, 47), vlan.Any, api.Form},
		{"Type 1501, of all else", bare(60, reserved, group, 1501), vlan.OnlyTagged, api.Form},
		{"from a group", bare(60, other, group, 0x800), vlan.Any, api.Source},
		{"from the least group", bare(60, other, 0x010000000000, 0x800), vlan.Any, api.Source},
		{"from all", bare(60, other, all, 0x800), vlan.Any, api.Source},
		{"from a Reserved one", bare(60, other, reserved, 0x800), vlan.Any, api.Source},
		{"from a group, to a Reserved one", bare(60, reserved, group, 0x800), vlan.OnlyTagged, api.Source},
		{"from a group, with a tag of 4095", tagged(60, other, group, 4095, 0x800), vlan.OnlyUntagged, api.Source},
		{"to a Reserved one", bare(60, reserved, station, 0x800), vlan.Any, api.Reserved},
		{"to the first Reserved one", bare(60, 0x0180C2000000, station, 0x800), vlan.Any, api.Reserved},
		{"to the last Reserved one", bare(60, 0x0180C200000F, station, 0x800), vlan.Any, api.Reserved},
		{"to the group behind", bare(60, 0x0180C2000010, station, 0x800), vlan.Any, api.Taken},
		{"to a Reserved one, without a tag", bare(60, reserved, station, 0x800), vlan.OnlyTagged, api.Reserved},
		{"to a Reserved one, with a tag", tagged(60, reserved, station, 5, 0x800), vlan.OnlyUntagged, api.Reserved},
		{"to a Reserved one, with a tag of 4095", tagged(60, reserved, station, 4095, 0x800), vlan.Any, api.Reserved},
		{"without a tag", bare(60, other, station, 0x800), vlan.OnlyTagged, api.Tag},
		{"with a tag", tagged(60, other, station, 5, 0x800), vlan.OnlyUntagged, api.Tag},
		{"with a tag of 4095", tagged(60, other, station, 4095, 0x800), vlan.Any, api.Vlan},
	}
	for _, r := range rows {
		v, w := vlan.Class(r.b, vlan.Rule{Pvid: 7, Accept: r.accept})
		if w != r.why || w != api.Taken && v != 0 {
			t.Errorf("%s: %d, %d, not %d", r.name, v, w, r.why)
		}
	}
}

func TestEnterAndLeave(t *testing.T) {
	l := []vlan.Vlan{
		{Vid: 3, Members: 6, Untagged: 2},
		{Vid: 9, Members: 1<<63 | 1},
		{Vid: 3, Members: 9},
		{Vid: 12},
	}
	rows := []struct {
		vid, port int
		why       api.Why
		leave     vlan.Set
	}{
		{3, 1, api.Taken, 4}, {3, 2, api.Taken, 2}, {3, 0, api.Member, 6}, {3, 3, api.Member, 6},
		{9, 0, api.Taken, 1 << 63}, {9, 63, api.Taken, 1}, {9, 62, api.Member, 1<<63 | 1},
		{9, 64, api.Member, 1<<63 | 1}, {9, -1, api.Member, 1<<63 | 1},
		{9, math.MaxInt, api.Member, 1<<63 | 1}, {9, math.MinInt, api.Member, 1<<63 | 1},
		{12, 0, api.Member, 0}, {4, 0, api.Vlan, 0}, {0, 0, api.Vlan, 0}, {-1, 1, api.Vlan, 0},
		{4095, 1, api.Vlan, 0}, {math.MaxInt, 64, api.Vlan, 0}, {math.MinInt, -1, api.Vlan, 0},
	}
	for _, r := range rows {
		if w := vlan.Enter(l, r.vid, r.port); w != r.why {
			t.Errorf("Enter %d at %d: %d, not %d", r.vid, r.port, w, r.why)
		}
		if s := vlan.Leave(l, r.vid, r.port); s != r.leave {
			t.Errorf("Leave %d at %d: %x, not %x", r.vid, r.port, uint64(s), uint64(r.leave))
		}
		if w, s := vlan.Enter(nil, r.vid, r.port), vlan.Leave(nil, r.vid, r.port); w != api.Vlan || s != 0 {
			t.Errorf("of none, %d at %d: %d, %x", r.vid, r.port, w, uint64(s))
		}
	}
}

func TestWhatIsHandedInStaysAsItIs(t *testing.T) {
	room := append(many(4), vlan.Vlan{Vid: 77, Members: 7}, vlan.Vlan{Vid: 78})
	before := slices.Clone(room)
	for _, l := range [][]vlan.Vlan{room[:4], room[:5], room[:0]} {
		vlan.Check(l, 2)
		vlan.Find(l, 3)
		vlan.Enter(l, 3, 1)
		vlan.Leave(l, 3, 1)
		if !slices.Equal(room, before) {
			t.Fatal("VLANs changed:", room)
		}
	}
	for _, b := range [][]byte{bare(200, other, station, 0x800), tagged(200, other, station, 4095, 0x800), bare(200, reserved, group, 1501)} {
		kept := bytes.Clone(b)
		for _, n := range []int{0, 59, 60, 200} {
			for accept := range 3 {
				vlan.Class(b[:n], vlan.Rule{Pvid: 7, Accept: accept})
			}
		}
		if !bytes.Equal(b, kept) {
			t.Error("a frame's bytes changed")
		}
	}
	first, second := vlan.List(5), vlan.List(5)
	first[0], first[1] = 99, 99
	_ = append(first[:1], 98)
	if !slices.Equal(second, []int{0, 2}) || !slices.Equal(vlan.List(5), []int{0, 2}) {
		t.Error("two answers of List share memory")
	}
}
