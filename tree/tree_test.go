package tree_test

import (
	"math"
	"slices"
	"strings"
	"testing"

	"outpost/api"
	"outpost/schema"
	"outpost/tree"
)

// Short names of what is held here.
type (
	Obj  = api.Obj
	Rule = api.Rule
	Val  = api.Val
	Tlv  = api.Tlv
	Leaf = tree.Leaf
)

// By whom.
const device, server = true, false

// Leaves of each kind.
func num(res int, n int64) Leaf    { return Leaf{res, Val{Kind: api.KInt, N: n}} }
func truth(res int, n int64) Leaf  { return Leaf{res, Val{Kind: api.KBool, N: n}} }
func text(res int, s string) Leaf  { return Leaf{res, Val{Kind: api.KText, S: s}} }
func bytes(res int, s string) Leaf { return Leaf{res, Val{Kind: api.KBytes, B: []byte(s)}} }
func time(res int, n int64) Leaf   { return Leaf{res, Val{Kind: api.KTime, N: n}} }
func link(res, obj, inst int) Leaf { return Leaf{res, Val{Kind: api.KLink, Obj: obj, Inst: inst}} }

// forms are three: object 9 of resources of all kinds and modes, 65534 of none, and 4 that a server may not make.
func forms() []Obj {
	return []Obj{
		{ID: 65534, Insts: 8, Make: true},
		{ID: 9, Insts: 3, Make: true, Rules: []Rule{
			{ID: 0, Kind: api.KInt, Least: -5, Most: 5, Read: true, Write: true, Must: true},
			{ID: 1, Kind: api.KBool, Read: true, Write: true},
			{ID: 2, Kind: api.KText, Least: 2, Most: 4, Read: true, Write: true, Must: true},
			{ID: 3, Kind: api.KBytes, Least: 1, Most: 3, Write: true, Must: true},
			{ID: 4, Kind: api.KTime, Least: 10, Most: 20, Read: true, Must: true},
			{ID: 5, Kind: api.KLink, Read: true, Write: true, Must: true},
			{ID: 6, Exec: true},
			{ID: 7, Kind: api.KText, Most: 200},
			{ID: 65535, Kind: api.KInt, Least: math.MinInt64, Most: math.MaxInt64, Read: true, Write: true},
		}},
		{ID: 4, Insts: 1, Rules: []Rule{{ID: 3, Kind: api.KBytes, Most: 200, Read: true, Write: true}}},
	}
}

// blanks are what an instance of object 9 has that nobody told anything.
func blanks() []Leaf {
	return []Leaf{num(0, -5), text(2, "xx"), bytes(3, "\x00"), time(4, 10), link(5, 0, 0)}
}

// all are values of all resources of an instance of object 9.
func all() []Leaf {
	return []Leaf{num(0, 3), truth(1, 1), text(2, "abc"), bytes(3, "\x01\x02"), time(4, 15), link(5, 9, 7), text(7, ""), num(65535, 1<<40)}
}

// of is a tree of forms.
func of(t *testing.T, objs []Obj) *tree.Tree {
	t.Helper()
	x, e := tree.New(objs)
	if x == nil || e != api.OK {
		t.Fatalf("New: %v, %d", x, e)
	}
	return x
}

// with is a tree of forms, with an instance 1 of object 9.
func with(t *testing.T, vals ...Leaf) *tree.Tree {
	t.Helper()
	x := of(t, forms())
	makes(t, x, 9, 1, vals, device, 1, api.OK)
	return x
}

// sameObj holds two forms against each other.
func sameObj(a, b Obj) bool {
	return a.ID == b.ID && a.Insts == b.Insts && a.Make == b.Make && slices.Equal(a.Rules, b.Rules)
}

// sameVal holds values against each other: a list that is nil and one that is empty are the same.
func sameVal(a, b Val) bool {
	return a.Kind == b.Kind && a.N == b.N && a.S == b.S && string(a.B) == string(b.B) && a.Obj == b.Obj && a.Inst == b.Inst
}

// sameLeaves holds leaves against each other.
func sameLeaves(a, b []Leaf) bool {
	return slices.EqualFunc(a, b, func(x, y Leaf) bool { return x.Res == y.Res && sameVal(x.Val, y.Val) })
}

// sameTlvs holds TLVs against each other.
func sameTlvs(a, b []Tlv) bool {
	return slices.EqualFunc(a, b, func(x, y Tlv) bool {
		return x.Kind == y.Kind && x.ID == y.ID && string(x.Val) == string(y.Val) && sameTlvs(x.Kids, y.Kids)
	})
}

// makes holds what Make is to answer.
func makes(t *testing.T, x *tree.Tree, obj, inst int, vals []Leaf, by bool, want int, wantE api.Errno) {
	t.Helper()
	if n, e := x.Make(obj, inst, vals, by); n != want || e != wantE {
		t.Errorf("Make of %d, %d by %t: %d, %d, want %d, %d", obj, inst, by, n, e, want, wantE)
	}
}

// puts holds what Put is to answer.
func puts(t *testing.T, x *tree.Tree, obj, inst int, vals []Leaf, whole, by bool, want api.Errno) {
	t.Helper()
	if e := x.Put(obj, inst, vals, whole, by); e != want {
		t.Errorf("Put of %d, %d, %.80v, all %t, by %t: %d, want %d", obj, inst, vals, whole, by, e, want)
	}
}

// has holds what an instance has: by Leaves, and by Get of each.
func has(t *testing.T, x *tree.Tree, obj, inst int, want ...Leaf) {
	t.Helper()
	if ls, ok := x.Leaves(obj, inst, device); !ok || !sameLeaves(ls, want) {
		t.Errorf("Leaves of %d, %d: %v, %t, want %v", obj, inst, ls, ok, want)
	}
	for _, l := range want {
		if v, ok := x.Get(obj, inst, l.Res); !ok || !sameVal(v, l.Val) {
			t.Errorf("Get of %d, %d, %d: %v, %t, want %v", obj, inst, l.Res, v, ok, l.Val)
		}
	}
}

// hasInsts holds which instances an object has.
func hasInsts(t *testing.T, x *tree.Tree, obj int, want ...int) {
	t.Helper()
	if got := x.Insts(obj); !slices.Equal(got, want) {
		t.Errorf("Insts of %d: %v, want %v", obj, got, want)
	}
}

// P19.1: the document's own examples.
func TestExamples(t *testing.T) {
	x := of(t, schema.All())
	makes(t, x, 1, -1, nil, device, 0, api.OK)
	if v, ok := x.Get(1, 0, 0); !ok || !sameVal(v, Val{Kind: api.KInt, N: 1}) {
		t.Errorf("1/0/0: %v, %t", v, ok)
	}
	puts(t, x, 1, 0, []Leaf{num(0, 2)}, false, server, api.ErrMay)
}

// P19.1, P19.2: a tree of the document's own objects, with as many instances as may be.
func TestTheObjects(t *testing.T) {
	x := of(t, schema.All())
	for _, o := range schema.All() {
		for n := range o.Insts {
			makes(t, x, o.ID, -1, nil, device, n, api.OK)
		}
		makes(t, x, o.ID, -1, nil, device, 0, api.ErrFull)
	}
	has(t, x, 0, 1, text(0, "x"), truth(1, 0), num(10, 1))
	has(t, x, 1, 0, num(0, 1), num(1, 1), truth(6, 0), text(7, "x"))
	has(t, x, 2, 7, num(0, 0), num(1, 0), num(3, 0))
	has(t, x, 3, 0, num(11, 0))
	has(t, x, 5, 0, num(3, 0), num(5, 0), num(9, 0))
	puts(t, x, 3, 0, []Leaf{time(13, 1<<40), text(14, "+02:00")}, false, server, api.OK)
	puts(t, x, 3, 0, []Leaf{time(13, 1<<40+1)}, false, device, api.ErrArg)
	has(t, x, 3, 0, num(11, 0), time(13, 1<<40), text(14, "+02:00"))
}

// P19.1: the forms, in whichever order they come.
func TestNew(t *testing.T) {
	f := forms()
	want := []Obj{f[2], f[1], f[0]}
	for _, order := range [][]int{{0, 1, 2}, {0, 2, 1}, {1, 0, 2}, {1, 2, 0}, {2, 0, 1}, {2, 1, 0}} {
		x := of(t, []Obj{f[order[0]], f[order[1]], f[order[2]]})
		if got := x.Objs(); !slices.EqualFunc(got, want, sameObj) {
			t.Errorf("Objs: %v", got)
		}
		for _, o := range f {
			hasInsts(t, x, o.ID)
		}
	}
	for _, objs := range [][]Obj{nil, {}} {
		x := of(t, objs)
		if len(x.Objs()) > 0 || x.Has([]int{0}) || !x.Has(nil) {
			t.Error("a tree without forms")
		}
		makes(t, x, 0, 0, nil, device, 0, api.ErrNone)
	}
	var many []Obj
	for id := range 300 {
		many = append(many, Obj{ID: 65534 - id, Insts: 1})
	}
	if got := of(t, many).Objs(); len(got) != 300 || got[0].ID != 65235 || got[299].ID != 65534 {
		t.Errorf("%d forms", len(got))
	}
}

// P19.1: forms of which a tree isn't made.
func TestNewRefuses(t *testing.T) {
	right := func(id int) Obj { return Obj{ID: id, Insts: 1} }
	for i, objs := range [][]Obj{
		{{}}, {right(1), {ID: 2}}, {{ID: 2}, right(1)}, {right(-1)}, {right(65535)}, {{Insts: 9}}, {right(1), right(2), {ID: 3, Insts: 1, Rules: []Rule{{Kind: 7}}}},
		{right(1), right(1)}, {right(1), right(2), right(1)}, {right(5), right(4), right(3), right(2), right(1), right(5)}, {right(0), {Insts: 2, Make: true}}, append(schema.All(), right(5)),
		{{ID: 1, Insts: 1, Rules: []Rule{{ID: 1, Kind: 1}, {ID: 1, Kind: 1}}}},
	} {
		if x, e := tree.New(objs); x != nil || e != api.ErrArg {
			t.Errorf("case %d: %v, %d", i, x, e)
		}
	}
}

// P19.1: which paths there are.
func TestHas(t *testing.T) {
	x := with(t)
	makes(t, x, 65534, 65534, nil, server, 65534, api.OK)
	for _, p := range [][]int{nil, {}, {9}, {4}, {65534}, {9, 1}, {65534, 65534}, {9, 1, 0}, {9, 1, 1}, {9, 1, 3}, {9, 1, 6}, {9, 1, 7}, {9, 1, 65535}} {
		if !x.Has(p) {
			t.Errorf("%v isn't there", p)
		}
	}
	for _, p := range [][]int{
		{0}, {-1}, {5}, {8}, {10}, {65533}, {65535}, {math.MaxInt}, {math.MinInt}, {9, 0}, {9, 2}, {9, -1}, {1, 9}, {4, 0}, {4, 1}, {65534, 0}, {0, 1}, {65534, 65535}, {9, 65534}, {9, 1<<32 + 1},
		{9, 1, 8}, {9, 1, -1}, {9, 1, 65534}, {9, 1, 65536}, {9, 0, 0}, {4, 1, 3}, {4, 0, 3}, {65534, 65534, 0}, {0, 1, 0}, {9, 1, 0, 0}, {9, 1, 0, 0, 0}, {9, 1, 0, -1}, {0, 0, 0, 0}, make([]int, 1<<16),
	} {
		if x.Has(p) {
			t.Errorf("%.40v is there", p)
		}
	}
}

// P19.1, P19.2: the numbers of instances that are made, up to Insts.
func TestMakeNumbers(t *testing.T) {
	x := of(t, forms())
	for i, inst := range []int{2, -1, math.MinInt, 65534, 0, -7, 5, -1} {
		want := []int{2, 0, 1, 65534, 0, 3, 5, 4}[i]
		e := api.OK
		if i == 4 {
			e = api.ErrTwice
		}
		makes(t, x, 65534, inst, nil, i%2 == 0, want, e)
	}
	hasInsts(t, x, 65534, 0, 1, 2, 3, 4, 5, 65534)
	makes(t, x, 65534, -1, nil, server, 6, api.OK)
	for _, inst := range []int{-1, 7, 65533, 100} {
		makes(t, x, 65534, inst, nil, device, 0, api.ErrFull)
		makes(t, x, 65534, inst, nil, server, 0, api.ErrFull)
	}
	if e := x.Delete(65534, 3, server); e != api.OK {
		t.Errorf("Delete: %d", e)
	}
	makes(t, x, 65534, -1, nil, server, 3, api.OK)
	hasInsts(t, x, 65534, 0, 1, 2, 3, 4, 5, 6, 65534)
	hasInsts(t, x, 9)
	hasInsts(t, x, 4)
	hasInsts(t, x, 7)
	hasInsts(t, x, -1)
}

// P19.1: of errors that apply together the first one.
func TestMakeErrors(t *testing.T) {
	x := with(t)
	makes(t, x, 4, 5, nil, device, 5, api.OK)
	wrong := []Leaf{num(99, 0)}
	for _, obj := range []int{0, -1, 5, 65535, math.MaxInt} {
		for _, inst := range []int{-1, 0, 1, 65535} {
			makes(t, x, obj, inst, wrong, server, 0, api.ErrNone)
			makes(t, x, obj, inst, nil, device, 0, api.ErrNone)
		}
	}
	for _, inst := range []int{-1, 0, 5, 65535} {
		makes(t, x, 4, inst, wrong, server, 0, api.ErrMay)
	}
	for _, inst := range []int{65535, 65536, math.MaxInt, 1<<32 + 1} {
		makes(t, x, 4, inst, wrong, device, 0, api.ErrArg)
		makes(t, x, 9, inst, wrong, server, 0, api.ErrArg)
	}
	makes(t, x, 4, 5, wrong, device, 0, api.ErrTwice)
	makes(t, x, 9, 1, wrong, server, 0, api.ErrTwice)
	makes(t, x, 4, 6, wrong, device, 0, api.ErrFull)
	makes(t, x, 4, -1, wrong, device, 0, api.ErrFull)
	makes(t, x, 9, 2, wrong, server, 0, api.ErrNone)
	hasInsts(t, x, 9, 1)
	hasInsts(t, x, 4, 5)
}

// P19.1, P19.2: what an instance that is made has, by whomever it is made.
func TestMakeValues(t *testing.T) {
	x := of(t, forms())
	makes(t, x, 9, -1, nil, server, 0, api.OK)
	has(t, x, 9, 0, blanks()...)
	makes(t, x, 9, -1, all(), server, 1, api.OK)
	has(t, x, 9, 1, all()...)
	makes(t, x, 9, -1, []Leaf{time(4, 20), text(7, "seven"), num(0, 4), time(4, 11)}, device, 2, api.OK)
	has(t, x, 9, 2, num(0, 4), text(2, "xx"), bytes(3, "\x00"), time(4, 11), link(5, 0, 0), text(7, "seven"))
	makes(t, x, 4, 9, nil, device, 9, api.OK)
	has(t, x, 4, 9)
	makes(t, x, 65534, 9, nil, device, 9, api.OK)
	has(t, x, 65534, 9)
}

// leafErrors are leaves of an instance of object 9 that are refused, with their errors, to whomever may write all.
func leafErrors() map[api.Errno][]Leaf {
	return map[api.Errno][]Leaf{
		api.ErrNone: {num(8, 0), num(-1, 0), num(65534, 0), num(65536, 0), num(math.MaxInt, 0), {Res: 10}, {Res: 99, Val: Val{Kind: 9}}},
		api.ErrMay:  {{Res: 6}, num(6, 0), text(6, "\n"), {Res: 6, Val: Val{Kind: 7}}},
		api.ErrKind: {
			{Res: 0}, {Res: 0, Val: Val{Kind: 7}}, {Res: 2, Val: Val{Kind: -1, S: "\n"}}, {Res: 7, Val: Val{Kind: math.MaxInt}}, truth(0, 0), time(0, 0), num(1, 0), num(4, 15), bytes(2, "ab"), text(3, "a"), num(5, 0), link(0, 0, 0),
		},
		api.ErrArg: {
			num(0, 6), num(0, -6), num(0, math.MaxInt64), num(0, math.MinInt64), truth(1, 2), truth(1, -1), truth(0, 2), time(4, 9), time(4, 21), text(2, "a"), text(2, ""), text(2, "abcde"), text(2, "a\n"), text(2, "\xff\xff"),
			text(0, "\x7f"), bytes(3, ""), bytes(3, "abcd"), link(5, 65536, 0), link(5, 0, -1), {Res: 5, Val: Val{Kind: api.KLink, N: 1}}, text(7, strings.Repeat("a", 201)), bytes(7, strings.Repeat("a", 201)), {Res: 1, Val: Val{Kind: api.KBool, S: "a"}},
		},
	}
}

// P19.1, P19.3: leaves that are refused, alone and among others: the first one's error counts, and nothing is turned.
func TestLeafErrors(t *testing.T) {
	for want, ls := range leafErrors() {
		for _, l := range ls {
			x := with(t, all()...)
			for _, whole := range []bool{false, true} {
				puts(t, x, 9, 1, []Leaf{l}, whole, device, want)
				puts(t, x, 9, 1, []Leaf{num(0, 1), truth(1, 0), l, num(99, 0)}, whole, device, want)
				puts(t, x, 9, 1, []Leaf{num(0, 1), l}, whole, server, either(l.Res == 4 || l.Res == 7, api.ErrMay, want))
				puts(t, x, 9, 1, []Leaf{num(65535, 1), text(2, "ab"), l, num(65535, 0), text(2, "abc")}, whole, server, either(l.Res == 4 || l.Res == 7, api.ErrMay, want))
			}
			for _, by := range []bool{device, server} {
				makes(t, x, 9, 2, []Leaf{l}, by, 0, want)
				makes(t, x, 9, -1, []Leaf{num(0, 1), truth(1, 0), l, num(99, 0)}, by, 0, want)
			}
			hasInsts(t, x, 9, 1)
			has(t, x, 9, 1, all()...)
		}
	}
}

// either is the one of two.
func either(is bool, a, b api.Errno) api.Errno {
	if is {
		return a
	}
	return b
}

// P19.1: of two leaves that are refused the first one's error, whichever they are.
func TestTheFirstLeafCounts(t *testing.T) {
	x := with(t, all()...)
	for first, a := range leafErrors() {
		for _, b := range leafErrors() {
			puts(t, x, 9, 1, []Leaf{num(0, 2), a[0], b[len(b)-1]}, true, device, first)
			makes(t, x, 9, 2, []Leaf{num(0, 2), a[0], b[len(b)-1]}, server, 0, first)
		}
	}
	// The last value counts, but each is looked at.
	puts(t, x, 9, 1, []Leaf{num(0, 6), num(0, 5)}, false, device, api.ErrArg)
	puts(t, x, 9, 1, []Leaf{num(0, 5), num(0, 6)}, false, device, api.ErrArg)
	has(t, x, 9, 1, all()...)
}

// P19.1: what isn't there isn't written, whatever is told.
func TestPutNowhere(t *testing.T) {
	x := with(t, all()...)
	for _, at := range [][2]int{{9, 0}, {9, 2}, {9, -1}, {4, 1}, {0, 1}, {-1, 1}, {10, 1}, {65534, 1}, {9, 1<<32 + 1}, {1, 9}} {
		for _, vals := range [][]Leaf{nil, all(), {{Res: 6}}, {num(0, 99)}} {
			puts(t, x, at[0], at[1], vals, true, device, api.ErrNone)
			puts(t, x, at[0], at[1], vals, false, server, api.ErrNone)
		}
	}
	has(t, x, 9, 1, all()...)
}

// P19.1, P19.2: in part, what isn't told stays; of a resource that is told twice the last value counts.
func TestPutInPart(t *testing.T) {
	x := with(t, all()...)
	for _, by := range []bool{device, server} {
		puts(t, x, 9, 1, nil, false, by, api.OK)
		has(t, x, 9, 1, all()...)
	}
	puts(t, x, 9, 1, []Leaf{bytes(3, "xyz"), num(0, 1), num(0, -5), bytes(3, "z")}, false, server, api.OK)
	want := all()
	want[0], want[3] = num(0, -5), bytes(3, "z")
	has(t, x, 9, 1, want...)
	puts(t, x, 9, 1, []Leaf{text(7, "é"), time(4, 20)}, false, device, api.OK)
	want[4], want[6] = time(4, 20), text(7, "é")
	has(t, x, 9, 1, want...)
	for _, l := range []Leaf{time(4, 12), text(7, "no")} {
		puts(t, x, 9, 1, []Leaf{num(0, 0), l}, false, server, api.ErrMay)
	}
	has(t, x, 9, 1, want...)
	y := with(t)
	puts(t, y, 9, 1, []Leaf{num(65535, math.MinInt64), truth(1, 0)}, false, server, api.OK)
	has(t, y, 9, 1, num(0, -5), truth(1, 0), text(2, "xx"), bytes(3, "\x00"), time(4, 10), link(5, 0, 0), num(65535, math.MinInt64))
}

// P19.1, P19.2: as a whole, what may be written and isn't told has no value any more, but Blank where it must.
func TestPutAsAWhole(t *testing.T) {
	x := with(t, all()...)
	puts(t, x, 9, 1, []Leaf{text(2, "new")}, true, server, api.OK)
	has(t, x, 9, 1, num(0, -5), text(2, "new"), bytes(3, "\x00"), time(4, 15), link(5, 0, 0), text(7, ""))
	puts(t, x, 9, 1, []Leaf{truth(1, 1)}, true, device, api.OK)
	has(t, x, 9, 1, num(0, -5), truth(1, 1), text(2, "xx"), bytes(3, "\x00"), time(4, 10), link(5, 0, 0))
	for _, by := range []bool{device, server} {
		x := with(t, all()...)
		puts(t, x, 9, 1, nil, true, by, api.OK)
		want := blanks()
		if by == server {
			want[3] = time(4, 15)
			want = append(want, text(7, ""))
		}
		has(t, x, 9, 1, want...)
	}
	y := of(t, forms())
	makes(t, y, 4, 0, []Leaf{bytes(3, "abc")}, device, 0, api.OK)
	puts(t, y, 4, 0, []Leaf{bytes(3, "")}, true, server, api.OK)
	has(t, y, 4, 0, bytes(3, ""))
	puts(t, y, 4, 0, nil, true, server, api.OK)
	has(t, y, 4, 0)
}

// P19.1: calls turn one instance alone.
func TestOthersStay(t *testing.T) {
	x := with(t, all()...)
	makes(t, x, 9, 0, nil, server, 0, api.OK)
	makes(t, x, 4, 1, []Leaf{bytes(3, "four")}, device, 1, api.OK)
	puts(t, x, 9, 0, []Leaf{num(0, 2)}, true, device, api.OK)
	has(t, x, 9, 1, all()...)
	has(t, x, 4, 1, bytes(3, "four"))
	if e := x.Delete(9, 0, server); e != api.OK {
		t.Errorf("Delete: %d", e)
	}
	hasInsts(t, x, 9, 1)
	has(t, x, 9, 1, all()...)
	has(t, x, 4, 1, bytes(3, "four"))
}

// P19.1: deleting, by whom, and what isn't there.
func TestDelete(t *testing.T) {
	x := with(t, all()...)
	makes(t, x, 4, 1, nil, device, 1, api.OK)
	for _, at := range [][2]int{{9, 0}, {9, 2}, {9, -1}, {9, 65535}, {0, 1}, {4, 0}, {65534, 1}, {-1, 1}, {65535, 1}} {
		for _, by := range []bool{device, server} {
			if e := x.Delete(at[0], at[1], by); e != api.ErrNone {
				t.Errorf("Delete of %v: %d", at, e)
			}
		}
	}
	for i, c := range []struct {
		obj  int
		by   bool
		want api.Errno
	}{{4, server, api.ErrMay}, {4, device, api.OK}, {4, server, api.ErrNone}, {4, device, api.ErrNone}, {9, server, api.OK}, {9, server, api.ErrNone}} {
		if e := x.Delete(c.obj, 1, c.by); e != c.want {
			t.Errorf("case %d: %d, want %d", i, e, c.want)
		}
		if x.Has([]int{c.obj, 1}) != (c.want == api.ErrMay) {
			t.Errorf("case %d: is it there", i)
		}
	}
	if v, ok := x.Get(9, 1, 0); ok || !sameVal(v, Val{}) {
		t.Errorf("a value of what was deleted: %v", v)
	}
	makes(t, x, 9, 1, nil, device, 1, api.OK)
	has(t, x, 9, 1, blanks()...)
}

// P19.1: what has no value, and what isn't there.
func TestGetNone(t *testing.T) {
	x := with(t)
	for _, p := range [][3]int{{9, 1, 1}, {9, 1, 6}, {9, 1, 7}, {9, 1, 8}, {9, 1, -1}, {9, 1, 65535}, {9, 0, 0}, {9, -1, 0}, {4, 1, 3}, {4, 0, 3}, {0, 0, 0}, {-1, -1, -1}, {65534, 0, 0}, {9, 1, 1 << 32}} {
		if v, ok := x.Get(p[0], p[1], p[2]); ok || !sameVal(v, Val{}) {
			t.Errorf("Get of %v: %v, %t", p, v, ok)
		}
	}
	for _, p := range [][2]int{{9, 0}, {9, 2}, {9, -1}, {4, 1}, {0, 0}, {-1, -1}, {65534, 0}} {
		for _, by := range []bool{device, server} {
			if ls, ok := x.Leaves(p[0], p[1], by); ok || len(ls) > 0 {
				t.Errorf("Leaves of %v: %v, %t", p, ls, ok)
			}
		}
	}
}

// P19.1: for a server what may be read alone.
func TestLeavesOfAServer(t *testing.T) {
	x := with(t, all()...)
	want := []Leaf{all()[0], all()[1], all()[2], all()[4], all()[5], all()[7]}
	if ls, ok := x.Leaves(9, 1, server); !ok || !sameLeaves(ls, want) {
		t.Errorf("Leaves: %v, %t", ls, ok)
	}
	y := of(t, schema.All())
	makes(t, y, 0, 0, nil, device, 0, api.OK)
	if ls, ok := y.Leaves(0, 0, server); !ok || len(ls) > 0 {
		t.Errorf("Leaves of what may not be read: %v, %t", ls, ok)
	}
}

// P19.1, P19.5: another one is the same, and each goes its own way.
func TestCloneAndBecome(t *testing.T) {
	x := with(t, all()...)
	y := x.Clone()
	z := of(t, schema.All())
	makes(t, z, 1, 0, nil, device, 0, api.OK)
	z.Become(x)
	if got := z.Objs(); len(got) != 3 || got[1].ID != 9 || z.Has([]int{1}) {
		t.Errorf("Objs: %v", got)
	}
	for i, each := range []*tree.Tree{x, y, z} {
		hasInsts(t, each, 9, 1)
		has(t, each, 9, 1, all()...)
		puts(t, each, 9, 1, []Leaf{num(0, int64(i))}, false, server, api.OK)
		makes(t, each, 9, 10+i, nil, server, 10+i, api.OK)
		makes(t, each, 4, 20+i, nil, device, 20+i, api.OK)
	}
	for i, each := range []*tree.Tree{x, y, z} {
		want := all()
		want[0] = num(0, int64(i))
		has(t, each, 9, 1, want...)
		hasInsts(t, each, 9, 1, 10+i)
		hasInsts(t, each, 4, 20+i)
	}
	if x.Delete(9, 1, server) != api.OK || !y.Has([]int{9, 1}) || !z.Has([]int{9, 1}) || y.Delete(4, 21, device) != api.OK || !x.Has([]int{4, 20}) || !z.Has([]int{4, 22}) {
		t.Error("Delete")
	}
	x.Become(y)
	hasInsts(t, x, 9, 1, 11)
	hasInsts(t, x, 4)
	x.Become(x)
	hasInsts(t, x, 9, 1, 11)
	makes(t, x, 9, 3, nil, server, 3, api.OK)
	hasInsts(t, y, 9, 1, 11)
	y.Become(z)
	makes(t, z, 9, 3, nil, server, 3, api.OK)
	hasInsts(t, y, 9, 1, 12)
}

// P1: of a tree that New didn't make there is nothing, and none of its calls panics; nor does Become of none.
func TestTreesThatWereNeverMade(t *testing.T) {
	for _, x := range []*tree.Tree{{}, (&tree.Tree{}).Clone()} {
		if len(x.Objs()) > 0 || len(x.Insts(9)) > 0 || !x.Has(nil) || x.Has([]int{9}) || x.Has([]int{9, 1}) || x.Has([]int{9, 1, 0}) || x.Delete(9, 1, device) != api.ErrNone {
			t.Error("something is there")
		}
		makes(t, x, 9, -1, nil, device, 0, api.ErrNone)
		puts(t, x, 9, 0, nil, true, device, api.ErrNone)
		y := with(t)
		x.Become(y)
		has(t, x, 9, 1, blanks()...)
		y.Become(&tree.Tree{})
		if len(y.Objs()) > 0 || len(y.Insts(9)) > 0 {
			t.Error("Become of a tree without forms")
		}
		x.Become(nil)
		has(t, x, 9, 1, blanks()...)
	}
}
