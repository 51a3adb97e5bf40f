package tree_test

import (
	"math"
	"slices"
	"strings"
	"testing"

	"outpost/api"
	"outpost/schema"
	"outpost/tlv"
	"outpost/tree"
)

// res is a resource as a TLV.
func res(id int, val string) Tlv { return Tlv{Kind: 3, ID: id, Val: []byte(val)} }

// inst is an instance as a TLV.
func inst(id int, kids ...Tlv) Tlv { return Tlv{Kind: 0, ID: id, Kids: kids} }

// tlvs holds what Tlv is to answer.
func tlvs(t *testing.T, x *tree.Tree, p []int, by bool, wantE api.Errno, want ...Tlv) {
	t.Helper()
	if ts, e := x.Tlv(p, by); !sameTlvs(ts, want) || e != wantE {
		t.Errorf("Tlv of %.40v by %t: %v, %d, want %v, %d", p, by, ts, e, want, wantE)
	}
}

// leaves holds what FromTlv is to answer.
func leaves(t *testing.T, x *tree.Tree, obj int, ts []Tlv, wantE api.Errno, want ...Leaf) {
	t.Helper()
	if ls, e := x.FromTlv(obj, ts); !sameLeaves(ls, want) || e != wantE {
		t.Errorf("FromTlv of %d, %.80v: %v, %d, want %v, %d", obj, ts, ls, e, want, wantE)
	}
}

// allAsTlvs are the values of all as TLVs.
func allAsTlvs() []Tlv {
	return []Tlv{res(0, "\x03"), res(1, "\x01"), res(2, "abc"), res(3, "\x01\x02"), res(4, "\x0f"), res(5, "\x00\x09\x00\x07"), res(7, ""), res(65535, "\x00\x00\x01\x00\x00\x00\x00\x00")}
}

// P19.1: what stands at paths of each length, for a device and for a server.
func TestTlv(t *testing.T) {
	x := with(t, all()...)
	makes(t, x, 9, 0, nil, device, 0, api.OK)
	ofDevice := allAsTlvs()
	ofServer := []Tlv{ofDevice[0], ofDevice[1], ofDevice[2], ofDevice[4], ofDevice[5], ofDevice[7]}
	blank := []Tlv{res(0, "\xfb"), res(2, "xx"), res(3, "\x00"), res(4, "\x0a"), res(5, "\x00\x00\x00\x00")}
	tlvs(t, x, []int{9, 1}, device, api.OK, ofDevice...)
	tlvs(t, x, []int{9, 1}, server, api.OK, ofServer...)
	tlvs(t, x, []int{9, 0}, device, api.OK, blank...)
	tlvs(t, x, []int{9}, device, api.OK, inst(0, blank...), inst(1, ofDevice...))
	tlvs(t, x, []int{9}, server, api.OK, inst(0, slices.Concat(blank[:2], blank[3:])...), inst(1, ofServer...))
	for _, l := range ofDevice {
		tlvs(t, x, []int{9, 1, l.ID}, device, api.OK, l)
		if l.ID == 3 || l.ID == 7 {
			tlvs(t, x, []int{9, 1, l.ID}, server, api.ErrMay)
		} else {
			tlvs(t, x, []int{9, 1, l.ID}, server, api.OK, l)
		}
	}
	for _, p := range [][]int{{4}, {65534}} {
		tlvs(t, x, p, device, api.OK)
		tlvs(t, x, p, server, api.OK)
	}
	makes(t, x, 65534, 300, nil, server, 300, api.OK)
	tlvs(t, x, []int{65534}, server, api.OK, inst(300))
	tlvs(t, x, []int{65534, 300}, server, api.OK)
}

// P19.1: what isn't there, what a server may not read, and what has no value, in this order.
func TestTlvErrors(t *testing.T) {
	x := with(t)
	for _, p := range [][]int{
		nil, {}, {0}, {-1}, {10}, {65535}, {9, 0}, {9, 2}, {9, -1}, {4, 0}, {4, 1}, {65534, 65534}, {9, 1, 8}, {9, 1, -1}, {9, 1, 65536}, {9, 0, 0}, {9, 0, 3}, {9, 0, 6}, {4, 0, 3}, {9, 1, 0, 0}, {9, 1, 3, 0}, make([]int, 1<<16), {math.MaxInt, 1, 0},
	} {
		tlvs(t, x, p, device, api.ErrNone)
		tlvs(t, x, p, server, api.ErrNone)
	}
	for _, id := range []int{1, 6, 7, 65535} {
		tlvs(t, x, []int{9, 1, id}, device, api.ErrNone)
		tlvs(t, x, []int{9, 1, id}, server, either(id == 6 || id == 7, api.ErrMay, api.ErrNone))
	}
	tlvs(t, x, []int{9, 1, 3}, server, api.ErrMay)
}

// P19.1: for a server an instance of which it may read nothing has nothing, but is there.
func TestTlvOfWhatMayNotBeRead(t *testing.T) {
	x := of(t, schema.All())
	makes(t, x, 0, 1, nil, device, 1, api.OK)
	tlvs(t, x, []int{0}, server, api.OK, inst(1))
	tlvs(t, x, []int{0, 1}, server, api.OK)
	tlvs(t, x, []int{0, 1, 0}, server, api.ErrMay)
	tlvs(t, x, []int{0}, device, api.OK, inst(1, res(0, "x"), res(1, "\x00"), res(10, "\x01")))
}

// P19.1: the leaves of TLVs, in their order.
func TestFromTlv(t *testing.T) {
	x := of(t, forms())
	leaves(t, x, 9, allAsTlvs(), api.OK, all()...)
	leaves(t, x, 9, nil, api.OK)
	leaves(t, x, 65534, nil, api.OK)
	leaves(t, x, 9, []Tlv{res(7, "a"), res(0, "\x00\x01"), res(7, ""), res(0, "\x00\x00\x00\x00\x00\x00\x00\x02")}, api.OK, text(7, "a"), num(0, 1), text(7, ""), num(0, 2))
	// Whether a value fits is asked when it is put, and Kids aren't looked at.
	long := strings.Repeat("b", 200)
	leaves(t, x, 9, []Tlv{res(0, "\x7f"), res(2, ""), res(3, long), res(4, "\xff"), {Kind: 3, ID: 5, Val: []byte("\xff\xff\x00\x01"), Kids: []Tlv{{Kind: 9}}}}, api.OK, num(0, 127), text(2, ""), bytes(3, long), time(4, -1), link(5, 65535, 1))
}

// P19.1: TLVs that are refused: the first one's error counts, of one the first.
func TestFromTlvErrors(t *testing.T) {
	x := with(t)
	wrong := map[api.Errno][]Tlv{
		api.ErrForm: {
			{Kind: 0, ID: 0, Val: []byte{1}}, {Kind: 1, ID: 99}, {Kind: 2, ID: 6}, {Kind: 4, ID: 6}, {Kind: -1, ID: 0, Val: []byte{1}}, inst(1, res(0, "\x01")), {Kind: math.MaxInt}, {Kind: 1<<32 + 3, ID: 0, Val: []byte{1}},
			res(0, ""), res(0, "\x00\x00\x00"), res(0, "123456789"), res(1, "\x02"), res(1, ""), res(1, "\x00\x01"), res(2, "\n"), res(2, "\xff"), res(4, ""), res(5, "\x00\x01\x02"), res(5, ""), res(65535, "12345"),
		},
		api.ErrNone: {res(8, "\x01"), res(-1, ""), res(65534, "\x00"), res(65536, "\x00"), res(math.MinInt, "\x00"), res(10, strings.Repeat("a", 300))},
		api.ErrMay:  {res(6, ""), res(6, "\x01"), res(6, strings.Repeat("a", 300))},
		api.ErrLong: {res(2, strings.Repeat("a", 201)), res(3, strings.Repeat("a", 201)), res(7, strings.Repeat("\n", 201))},
	}
	for want, ts := range wrong {
		for _, x1 := range ts {
			leaves(t, x, 9, []Tlv{x1}, want)
			for _, others := range wrong {
				leaves(t, x, 9, []Tlv{res(0, "\x01"), res(7, "a"), x1, others[0]}, want)
			}
			for _, obj := range []int{0, -1, 10, 65535, math.MaxInt} {
				leaves(t, x, obj, []Tlv{x1}, api.ErrNone)
			}
		}
	}
	leaves(t, x, 0, nil, api.ErrNone)
	leaves(t, x, 65534, []Tlv{res(0, "\x01")}, api.ErrNone)
	leaves(t, x, 4, []Tlv{res(0, "\x01")}, api.ErrNone)
	has(t, x, 9, 1, blanks()...)
}

// P19.4, P5: what is told as TLVs is the same when it is put back, over layer 15's bytes too.
func TestTlvIsPutBack(t *testing.T) {
	for _, vals := range [][]Leaf{nil, all(), {text(7, strings.Repeat("é", 100)), num(65535, math.MinInt64), bytes(3, "\xff\x00")}} {
		x := with(t, vals...)
		want, _ := x.Leaves(9, 1, device)
		for _, by := range []bool{device, server} {
			ts, e := x.Tlv([]int{9, 1}, by)
			b, f := tlv.Write(ts)
			read, g := tlv.Read(b)
			ls, h := x.FromTlv(9, read)
			told, ok := x.Leaves(9, 1, by)
			if e != api.OK || f != api.OK || g != api.OK || h != api.OK || !ok || !sameLeaves(ls, told) {
				t.Errorf("put back: %v, %d, %d, %d, %d", ls, e, f, g, h)
			}
			y := x.Clone()
			puts(t, y, 9, 1, ls, by, device, api.OK)
			has(t, y, 9, 1, want...)
			makes(t, y, 9, 0, ls, by, 0, api.OK)
			if got, _ := y.Leaves(9, 0, by); !sameLeaves(got, told) {
				t.Errorf("made of it: %v", got)
			}
		}
	}
}
