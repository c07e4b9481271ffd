package script_test

import (
	"bytes"
	"slices"
	"testing"

	"patchbay/api"
	"patchbay/frame"
	"patchbay/key"
	"patchbay/mac"
	"patchbay/model"
	"patchbay/script"
	"patchbay/vlan"
)

// The chapter's example.
func TestExample(t *testing.T) {
	l := script.Decode(planOf(2, 0, plans()[0].Size), []byte{7, 200})
	if !same(l, []script.Event{{Kind: script.Pick, N: 1}, {Kind: script.Tick, N: 1}}) {
		t.Errorf("%+v", l)
	}
}

// The rows of the chapter's table, from their first bytes to their last ones: of a plan of 3 ports, and VLANs 3 and 103.
func TestDecodeRows(t *testing.T) {
	p := plans()[2]
	order := func(o model.Op) script.Event { return script.Event{Kind: script.Order, Op: o} }
	station := func(n int) mac.Mac { return mac.Mac(0x020000000001 + n) }
	for _, c := range []struct {
		b    []byte
		want script.Event
	}{
		{[]byte{0}, script.Event{Kind: script.Pick, N: 0}},
		{[]byte{7}, script.Event{Kind: script.Pick, N: 7}},
		{[]byte{8}, script.Event{Kind: script.Pick, N: 0}},
		{[]byte{159}, script.Event{Kind: script.Pick, N: 7}},
		{[]byte{200}, script.Event{Kind: script.Tick, N: 1}},
		{[]byte{219}, script.Event{Kind: script.Tick, N: 20}},
		{[]byte{220}, script.Event{Kind: script.Sweep}},
		{[]byte{223}, script.Event{Kind: script.Sweep}},
		{[]byte{224}, script.Event{Kind: script.Change, N: 0}},
		{[]byte{225}, script.Event{Kind: script.Change, N: 1}},
		{[]byte{229}, script.Event{Kind: script.Change, N: 1}},
		{[]byte{230, 0, 0}, order(model.Op{Kind: model.SetState})},
		{[]byte{230, 2, 4}, order(model.Op{Kind: model.SetState, Port: 2, State: 4})},
		{[]byte{240, 3, 5}, order(model.Op{Kind: model.SetState, Port: 0, State: 0})},
		{[]byte{240, 255, 254}, order(model.Op{Kind: model.SetState, Port: 0, State: 4})},
		{[]byte{241, 0, 7, 2}, order(model.Op{Kind: model.SetVlan, Vid: 3, Members: 7, Untagged: 2})},
		{[]byte{246, 3, 255, 128}, order(model.Op{Kind: model.SetVlan, Vid: 103, Members: 255, Untagged: 128})},
		{[]byte{246, 2, 0, 255}, order(model.Op{Kind: model.SetVlan, Vid: 3, Members: 0, Untagged: 255})},
		{[]byte{247, 0, 0}, order(model.Op{Kind: model.Flush, Port: -1, Vid: -1})},
		{[]byte{250, 3, 2}, order(model.Op{Kind: model.Flush, Port: 2, Vid: 103})},
		{[]byte{250, 4, 4}, order(model.Op{Kind: model.Flush, Port: -1, Vid: 3})},
		{[]byte{250, 5, 3}, order(model.Op{Kind: model.Flush, Port: 0, Vid: -1})},
		{[]byte{251, 0, 0, 0}, order(model.Op{Kind: model.Order, Key: key.Key{Vid: 3, Mac: station(0)}, Port: 0})},
		{[]byte{253, 7, 1, 2}, order(model.Op{Kind: model.Order, Key: key.Key{Vid: 103, Mac: station(7)}, Port: 2})},
		{[]byte{253, 8, 2, 3}, order(model.Op{Kind: model.Order, Key: key.Key{Vid: 3, Mac: station(0)}, Port: 0})},
		{[]byte{254, 0, 0}, order(model.Op{Kind: model.Drop, Key: key.Key{Vid: 3, Mac: station(0)}})},
		{[]byte{255, 15, 255}, order(model.Op{Kind: model.Drop, Key: key.Key{Vid: 103, Mac: station(7)}})},
	} {
		if l := script.Decode(p, c.b); !same(l, []script.Event{c.want}) {
			t.Errorf("%v: %+v, not %+v", c.b, l, c.want)
		}
	}
}

// Frames' bytes, of the same plan.
func TestDecodeFrames(t *testing.T) {
	p := plans()[2]
	for _, c := range []struct {
		b    []byte
		port int
		head []byte
	}{
		{[]byte{160, 0, 0, 1, 0}, 0, []byte{2, 0, 0, 0, 0, 1, 2, 0, 0, 0, 0, 2, 8, 0}},
		{[]byte{199, 2, 7, 7, 0}, 2, []byte{2, 0, 0, 0, 0, 8, 2, 0, 0, 0, 0, 8, 8, 0}},
		{[]byte{170, 3, 8, 8, 0}, 0, []byte{255, 255, 255, 255, 255, 255, 2, 0, 0, 0, 0, 1, 8, 0}},
		{[]byte{171, 4, 9, 15, 3}, 1, []byte{1, 0, 0x5e, 0, 0, 1, 2, 0, 0, 0, 0, 8, 8, 0}},
		{[]byte{172, 255, 10, 0, 1}, 0, []byte{2, 0, 0, 0, 0, 1, 2, 0, 0, 0, 0, 1, 0x81, 0, 0, 3, 8, 0}},
		{[]byte{173, 254, 17, 9, 2}, 2, []byte{2, 0, 0, 0, 0, 8, 2, 0, 0, 0, 0, 2, 0x81, 0, 0, 103, 8, 0}},
		{[]byte{174, 253, 255, 255, 254}, 1, []byte{2, 0, 0, 0, 0, 6, 2, 0, 0, 0, 0, 8, 0x81, 0, 0, 103, 8, 0}},
		{[]byte{175, 1, 18, 3, 255}, 1, []byte{255, 255, 255, 255, 255, 255, 2, 0, 0, 0, 0, 4, 8, 0}},
	} {
		want := slices.Concat(c.head, bytes.Repeat(c.b[:1], 46))
		if l := script.Decode(p, c.b); !same(l, []script.Event{{Kind: script.Frame, Port: c.port, Bytes: want}}) {
			t.Errorf("%v: %+v, not at %d %x", c.b, l, c.port, want)
		}
	}
	big := plans()[4]
	l := script.Decode(big, []byte{180, 63, 0, 0, 16, 180, 64, 0, 0, 33})
	if len(l) != 2 || l[0].Port != 63 || l[1].Port != 0 || len(l[0].Bytes) != 64 || l[0].Bytes[14] != 0x0f || l[0].Bytes[15] != 0xfe || !bytes.Equal(l[0].Bytes, l[1].Bytes) {
		t.Errorf("%+v", l)
	}
}

// needs is how many bytes there are to be behind c.
func needs(c byte, vlans int) int {
	switch {
	case c >= 160 && c <= 199:
		return 4
	case c >= 230 && c <= 240, c >= 247 && c <= 250:
		return 2
	case vlans == 0:
		return 0
	case c >= 241 && c <= 246, c >= 251 && c <= 253:
		return 3
	case c >= 254:
		return 2
	}
	return 0
}

// plainly is the Event of c and the four bytes behind it.
func plainly(p model.Plan, c byte, b [4]byte) script.Event {
	at := func(i, n int) int { return int(b[i]) % n }
	ports, vlans := p.Ports, len(p.Vlans)
	switch {
	case c <= 159:
		return script.Event{Kind: script.Pick, N: int(c) % (2*ports + 2)}
	case c <= 199:
		macs := []mac.Mac{0x020000000001, 0x020000000002, 0x020000000003, 0x020000000004, 0x020000000005, 0x020000000006, 0x020000000007, 0x020000000008, 0xffffffffffff, 0x01005e000001}
		whole, _ := frame.Write(frame.Frame{Dst: macs[at(1, 10)], Src: macs[at(2, 8)], Type: 0x800, Load: bytes.Repeat([]byte{c}, 46)})
		if v := at(3, vlans+1); v != 0 {
			whole, _ = frame.Out(whole, true, p.Vlans[v-1].Vid)
		}
		return script.Event{Kind: script.Frame, Port: at(0, ports), Bytes: whole}
	case c <= 219:
		return script.Event{Kind: script.Tick, N: int(c) - 199}
	case c <= 223:
		return script.Event{Kind: script.Sweep}
	case c <= 229:
		return script.Event{Kind: script.Change, N: int(c) % 2}
	}
	e := script.Event{Kind: script.Order}
	switch {
	case c <= 240:
		e.Op = model.Op{Kind: model.SetState, Port: at(0, ports), State: at(1, 5)}
	case c >= 247 && c <= 250:
		vids := []int{-1}
		for _, v := range p.Vlans {
			vids = append(vids, v.Vid)
		}
		e.Op = model.Op{Kind: model.Flush, Port: at(0, ports+1) - 1, Vid: vids[at(1, len(vids))]}
	case vlans == 0:
		return script.Event{Kind: script.Sweep}
	case c <= 246:
		e.Op = model.Op{Kind: model.SetVlan, Vid: p.Vlans[at(0, vlans)].Vid, Members: vlan.Set(b[1]), Untagged: vlan.Set(b[2])}
	default:
		e.Op = model.Op{Kind: model.Drop, Key: key.Key{Vid: p.Vlans[at(1, vlans)].Vid, Mac: mac.Mac(0x020000000001 + at(0, 8))}}
		if c <= 253 {
			e.Op.Kind, e.Op.Port = model.Order, at(2, ports)
		}
	}
	return e
}

// Each byte, with as many behind it as it needs, fewer, and more: what is behind is read by itself.
func TestDecodeEachByte(t *testing.T) {
	x := &numbers{1}
	for _, p := range plans() {
		for c := range 256 {
			for range 40 {
				b := [4]byte(x.bytes(4))
				n := needs(byte(c), len(p.Vlans))
				var cut [4]byte
				copy(cut[:], b[:n])
				list := append([]byte{byte(c)}, b[:n]...)
				want := plainly(p, byte(c), cut)
				if l := script.Decode(p, append(list, 205)); !same(l, []script.Event{want, {Kind: script.Tick, N: 6}}) {
					t.Fatalf("of %d ports: %v: %+v, not %+v", p.Ports, list, l, want)
				}
				for n > 0 {
					n--
					cut[n] = 0
					want = plainly(p, byte(c), cut)
					if l := script.Decode(p, list[:1+n]); !same(l, []script.Event{want}) {
						t.Fatalf("of %d ports: %v: %+v, not %+v", p.Ports, list[:1+n], l, want)
					}
				}
			}
		}
	}
}

// Any bytes, one behind the other.
func TestDecodeAny(t *testing.T) {
	x := &numbers{2}
	for _, p := range plans() {
		for range 300 {
			b := x.bytes(x.below(60))
			var want []script.Event
			for rest := b; len(rest) > 0; {
				var four [4]byte
				c, n := rest[0], needs(rest[0], len(p.Vlans))
				n = min(copy(four[:], rest[1:]), n)
				clear(four[n:])
				want = append(want, plainly(p, c, four))
				rest = rest[1+n:]
			}
			if l := script.Decode(p, b); !same(l, want) {
				t.Fatalf("of %d ports: %v: %+v, not %+v", p.Ports, b, l, want)
			}
		}
	}
}

func TestDecodeNothing(t *testing.T) {
	for i, change := range []func(p *model.Plan){
		func(p *model.Plan) { p.Ports = 0 }, func(p *model.Plan) { p.Ports = 1 }, func(p *model.Plan) { p.Ports = 65 }, func(p *model.Plan) { p.Ports = -1 },
		func(p *model.Plan) { p.Vlans[1].Vid = 0 }, func(p *model.Plan) { p.Vlans[1].Members = 8 }, func(p *model.Plan) { p.Rules = nil }, func(p *model.Plan) { p.Rules[0].Pvid = 0 },
		func(p *model.Plan) { p.Size.Slots = 0 }, func(p *model.Plan) { p.Tries = 9 }, func(p *model.Plan) { p.Ring = 0 }, func(p *model.Plan) { *p = model.Plan{} },
	} {
		p := plans()[2]
		change(&p)
		if model.Check(p) == api.OK {
			t.Fatal(i, "it may be")
		}
		for _, b := range [][]byte{nil, {0}, {160}, {230, 1, 1}, {241}, {255, 1, 1}} {
			if l := script.Decode(p, b); len(l) != 0 {
				t.Errorf("%d: %v: %+v", i, b, l)
			}
		}
	}
	for _, p := range plans() {
		if len(script.Decode(p, nil)) != 0 || len(script.Decode(p, []byte{})) != 0 {
			t.Error("of no bytes there is something")
		}
	}
}

// Each Order is one that a switch of the plan takes; and each Frame's port is one that it has, and each task.
func TestDecodedIsTaken(t *testing.T) {
	x := &numbers{3}
	for _, p := range plans() {
		s, orders := newSwitch(t, p), 0
		for _, e := range script.Decode(p, x.bytes(3000)) {
			switch e.Kind {
			case script.Order:
				orders++
				if !s.Order(e.Op) {
					t.Errorf("of %d ports: %+v isn't taken", p.Ports, e.Op)
				}
			case script.Frame:
				if s.Arrive(e.Port, e.Bytes) < 0 {
					t.Errorf("of %d ports: it can't come at %d", p.Ports, e.Port)
				}
			case script.Pick:
				if e.N < 0 || e.N >= s.Tasks() {
					t.Errorf("of %d ports: task %d", p.Ports, e.N)
				}
			}
		}
		if orders == 0 {
			t.Error("no orders")
		}
	}
}

// What is handed in isn't kept or changed, its spare room neither; no two Events share Bytes.
func TestDecodeIsNew(t *testing.T) {
	p := plans()[2]
	b := append(make([]byte, 0, 20), 160, 1, 2, 3, 1, 160, 1, 2, 3, 1, 241)
	spare := b[len(b):cap(b)]
	was := slices.Clone(b)
	l := script.Decode(p, b)
	if !bytes.Equal(b, was) || !bytes.Equal(spare, make([]byte, len(spare))) {
		t.Errorf("%v, %v", b, spare)
	}
	want := copied(l)
	for i := range b {
		b[i] = 99
	}
	p.Vlans[0].Vid = 9
	if !same(l, want) {
		t.Error("it hangs on what was handed in")
	}
	for i := range l[0].Bytes {
		l[0].Bytes[i] = 77
	}
	if _ = append(l[0].Bytes, 5); !sameEvent(l[1], want[1]) {
		t.Error("two Events share Bytes")
	}
	if again := script.Decode(plans()[2], was); !same(again, want) {
		t.Errorf("%+v", again)
	}
}
