package tree_test

import (
	"slices"
	"testing"

	"outpost/api"
	"outpost/tree"
)

// turn turns bytes, spare room too.
func turn(b []byte) {
	b = b[:cap(b)]
	for i := range b {
		b[i] ^= 255
	}
}

// turnLeaves turns all that leaves have, spare room too.
func turnLeaves(ls []Leaf) {
	ls = ls[:cap(ls)]
	for i := range ls {
		turn(ls[i].Val.B)
		ls[i] = Leaf{-9, Val{Kind: -9}}
	}
}

// turnTlvs turns all that TLVs have, spare room too.
func turnTlvs(ts []Tlv) {
	ts = ts[:cap(ts)]
	for i := range ts {
		turn(ts[i].Val)
		turnTlvs(ts[i].Kids)
		ts[i] = Tlv{Kind: -9, ID: -9}
	}
}

// turnForms turns all that forms have, spare room too.
func turnForms(objs []Obj) {
	objs = objs[:cap(objs)]
	for i := range objs {
		rules := objs[i].Rules[:cap(objs[i].Rules)]
		for n := range rules {
			rules[n] = Rule{ID: -9, Kind: -9}
		}
		objs[i] = Obj{ID: -9}
	}
}

// wanted are the forms as Objs tells them.
func wanted() []Obj {
	f := forms()
	return []Obj{f[2], f[1], f[0]}
}

// P19.5: the forms stay as they were handed in, and may be written over; what is answered of them is nobody else's.
func TestMemoryOfForms(t *testing.T) {
	room := append(forms(), Obj{ID: 1, Insts: 1})
	room[1].Rules = append(room[1].Rules, Rule{ID: 77})[:9]
	x, e := tree.New(room[:3])
	if e != api.OK || !slices.EqualFunc(room[:3], forms(), sameObj) || room[3].ID != 1 || room[1].Rules[:10][9].ID != 77 {
		t.Fatalf("New turns what is handed in: %v, %d", room, e)
	}
	y := x.Clone()
	turnForms(room)
	for _, each := range []*tree.Tree{x, y} {
		first, second := each.Objs(), each.Objs()
		turnForms(first)
		if !slices.EqualFunc(second, wanted(), sameObj) || !slices.EqualFunc(each.Objs(), wanted(), sameObj) || !slices.EqualFunc(x.Objs(), wanted(), sameObj) {
			t.Error("Objs shares memory")
		}
		makes(t, each, 9, -1, nil, server, 0, api.OK)
		has(t, each, 9, 0, blanks()...)
	}
	z := of(t, nil)
	z.Become(x)
	turnForms(z.Objs())
	if !slices.EqualFunc(z.Objs(), wanted(), sameObj) {
		t.Error("Become shares memory")
	}
}

// P19.5: rules that two forms share when they are handed in are each form's own when they are answered.
func TestMemoryOfSharedRules(t *testing.T) {
	rules := []Rule{{ID: 1, Kind: api.KInt}}
	x := of(t, []Obj{{ID: 1, Insts: 1, Rules: rules}, {ID: 2, Insts: 1, Rules: rules}})
	got := x.Objs()
	got[0].Rules[0].ID = 9
	if got[1].Rules[0].ID != 1 {
		t.Error("two lists of an answer share memory")
	}
}

// P19.5: leaves stay as they were handed in, behind their length too, and may be written over.
func TestMemoryOfLeaves(t *testing.T) {
	for what, call := range map[string]func(x *tree.Tree, ls []Leaf) api.Errno{
		"Make": func(x *tree.Tree, ls []Leaf) api.Errno {
			_, e := x.Make(9, 0, ls, server)
			return e
		},
		"Put": func(x *tree.Tree, ls []Leaf) api.Errno {
			if _, e := x.Make(9, 0, nil, server); e != api.OK {
				return e
			}
			return x.Put(9, 0, ls, true, device)
		},
	} {
		x := of(t, forms())
		room := append(all(), bytes(3, "!"))
		row := []byte("\x01\x02spare room")
		room[3].Val.B = row[:2]
		if e := call(x, room[:8]); e != api.OK || !sameLeaves(room, append(all(), bytes(3, "!"))) || string(row) != "\x01\x02spare room" {
			t.Errorf("%s: what is handed in is turned, %d", what, e)
		}
		turnLeaves(room)
		turn(row)
		has(t, x, 9, 0, all()...)
	}
}

// P19.5: what is answered is nobody else's, spare room too: not the tree's, not its clone's, not another answer's.
func TestAnswersAreNewMemory(t *testing.T) {
	x := with(t, all()...)
	makes(t, x, 9, 0, []Leaf{bytes(3, "abc")}, server, 0, api.OK)
	y := x.Clone()
	z := of(t, nil)
	z.Become(x)
	for what, call := range map[string]func(x *tree.Tree) bool{
		"Insts": func(x *tree.Tree) bool {
			insts := x.Insts(9)
			ok := slices.Equal(insts, []int{0, 1})
			insts = insts[:cap(insts)]
			for i := range insts {
				insts[i] = -9
			}
			return ok
		},
		"Get": func(x *tree.Tree) bool {
			v, ok := x.Get(9, 1, 3)
			ok = ok && string(v.B) == "\x01\x02"
			turn(v.B)
			return ok
		},
		"Leaves": func(x *tree.Tree) bool {
			ls, ok := x.Leaves(9, 1, device)
			ok = ok && sameLeaves(ls, all())
			turnLeaves(ls)
			return ok
		},
		"Tlv of a resource": func(x *tree.Tree) bool { return turnsTlv(x, []int{9, 1, 2}, res(2, "abc")) },
		"Tlv of bytes":      func(x *tree.Tree) bool { return turnsTlv(x, []int{9, 1, 3}, res(3, "\x01\x02")) },
		"Tlv of an instance": func(x *tree.Tree) bool {
			return turnsTlv(x, []int{9, 1}, allAsTlvs()...)
		},
		"Tlv of an object": func(x *tree.Tree) bool {
			return turnsTlv(x, []int{9}, inst(0, res(0, "\xfb"), res(2, "xx"), res(3, "abc"), res(4, "\x0a"), res(5, "\x00\x00\x00\x00")), inst(1, allAsTlvs()...))
		},
		"FromTlv": func(x *tree.Tree) bool {
			ls, e := x.FromTlv(9, allAsTlvs())
			ok := e == api.OK && sameLeaves(ls, all())
			turnLeaves(ls)
			return ok
		},
	} {
		for i, each := range []*tree.Tree{x, y, z, x, y, z} {
			if !call(each) {
				t.Errorf("%s: another answer at call %d", what, i)
			}
		}
	}
}

// turnsTlv tells whether a tree answers TLVs, and turns the answer, its last one first: what is ahead must stay.
func turnsTlv(x *tree.Tree, p []int, want ...Tlv) bool {
	ts, e := x.Tlv(p, device)
	ok := e == api.OK && sameTlvs(ts, want)
	for i := len(ts) - 1; i >= 0; i-- {
		ok = ok && sameTlvs(ts[:i+1], want[:i+1])
		for n := len(ts[i].Kids) - 1; n >= 0; n-- {
			turn(ts[i].Kids[n].Val)
			ok = ok && sameTlvs(ts[i].Kids[:n], want[i].Kids[:n])
		}
		turnTlvs(ts[i].Kids)
		turn(ts[i].Val)
	}
	turnTlvs(ts)
	return ok
}

// P19.5: TLVs stay as they were handed in, behind their length too, and may be written over.
func TestMemoryOfFromTlv(t *testing.T) {
	x := of(t, forms())
	row := []byte("\x01\x02\x03spare room")
	room := []Tlv{res(7, "a"), {Kind: 3, ID: 3, Val: row[:2]}, {Kind: 3, ID: 3, Val: row[1:3]}, {Kind: 9}}
	ls, e := x.FromTlv(9, room[:3])
	if e != api.OK || string(row) != "\x01\x02\x03spare room" || !sameTlvs(room, []Tlv{res(7, "a"), res(3, "\x01\x02"), res(3, "\x02\x03"), {Kind: 9}}) {
		t.Errorf("FromTlv turns what is handed in: %v, %d", room, e)
	}
	turnTlvs(room)
	clear(row)
	if !sameLeaves(ls, []Leaf{text(7, "a"), bytes(3, "\x01\x02"), bytes(3, "\x02\x03")}) {
		t.Errorf("FromTlv keeps what is handed in: %v", ls)
	}
	turn(ls[1].Val.B)
	if string(ls[2].Val.B) != "\x02\x03" {
		t.Error("two lists of an answer share memory")
	}
}

// P19.5: paths stay.
func TestMemoryOfPaths(t *testing.T) {
	x := with(t, all()...)
	p := []int{9, 1, 0, 77}
	for n := range 5 {
		x.Has(p[:n])
		x.Tlv(p[:n], device)
		x.Tlv(p[:n], server)
	}
	if !slices.Equal(p, []int{9, 1, 0, 77}) {
		t.Errorf("a path is turned: %v", p)
	}
}
