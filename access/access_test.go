package access_test

import (
	"math"
	"slices"
	"testing"

	"outpost/access"
	"outpost/api"
	"outpost/schema"
	"outpost/tree"
)

// Short names of what is held here.
type (
	Val  = api.Val
	Leaf = tree.Leaf
)

// making stands in the place of an instance: the access is that of making one.
const making = 65535

// num is the leaf of a number.
func num(res, n int) Leaf { return Leaf{Res: res, Val: Val{Kind: api.KInt, N: int64(n)}} }

// list is the leaf of a list.
func list(b ...byte) Leaf { return Leaf{Res: 2, Val: Val{Kind: api.KBytes, B: b}} }

// text is the leaf of a text.
func text(res int, s string) Leaf { return Leaf{Res: res, Val: Val{Kind: api.KText, S: s}} }

// makes makes an instance.
func makes(t *testing.T, x *tree.Tree, obj, inst int, ls ...Leaf) {
	t.Helper()
	if n, e := x.Make(obj, inst, ls, true); n != inst || e != api.OK {
		t.Fatalf("Make of %d, %d: %d, %d", obj, inst, n, e)
	}
}

// of is a tree of the document's objects, with so many servers, 1 and those behind it.
func of(t *testing.T, servers int) *tree.Tree {
	t.Helper()
	x, e := tree.New(schema.All())
	if e != api.OK {
		t.Fatal(e)
	}
	for n := range servers {
		makes(t, x, 1, n, num(0, n+1))
	}
	return x
}

// two is a tree with two servers and an access of obj, inst.
func two(t *testing.T, obj, inst, owner int, more ...Leaf) *tree.Tree {
	t.Helper()
	x := of(t, 2)
	makes(t, x, 2, 0, append([]Leaf{num(0, obj), num(1, inst), num(3, owner)}, more...)...)
	return x
}

// rights holds what a server may do.
func rights(t *testing.T, x *tree.Tree, server, obj, inst, want int) {
	t.Helper()
	if got := access.Rights(x, server, obj, inst); got != want {
		t.Errorf("Rights of %d with %d, %d: %d, want %d", server, obj, inst, got, want)
	}
}

// P20.1: the document's own example.
func TestExample(t *testing.T) {
	x := two(t, 3, 0, 9, list(1, 3))
	rights(t, x, 1, 3, 0, 3)
	rights(t, x, 2, 3, 0, 0)
	if access.Read != 1 || access.Write != 2 || access.Exec != 4 || access.Del != 8 || access.Make != 16 {
		t.Error("the rights are other numbers")
	}
}

// P20.1: server 0 may do all, with whatever object, however many servers there are, whatever is said of it.
func TestServer0(t *testing.T) {
	for servers := range 3 {
		x := of(t, servers)
		makes(t, x, 2, 0, num(0, 3), num(1, 0), num(3, 9), list(0, 1))
		makes(t, x, 2, 1, num(0, 0), num(1, 0), num(3, 9), list(1, 1))
		for _, obj := range []int{0, 1, 2, 3, 5, 9, 65535, -1} {
			for _, inst := range []int{-1, 0, 1, 7, making} {
				rights(t, x, 0, obj, inst, 31)
			}
		}
	}
}

// P20.2: with object 0 none but server 0 may do anything, whatever is said.
func TestObject0(t *testing.T) {
	for servers := range 3 {
		x := of(t, servers)
		makes(t, x, 2, 0, num(0, 0), num(1, 0), num(3, 1), list(1, 31, 0, 31))
		makes(t, x, 2, 1, num(0, 0), num(1, making), num(3, 1))
		for _, server := range []int{1, 2, -1, 65535, math.MaxInt, math.MinInt} {
			for _, inst := range []int{-1, 0, 1, making} {
				rights(t, x, server, 0, inst, 0)
			}
		}
	}
}

// P20.2: where at most one server is known any may do all, whatever is said, but with object 0.
func TestOneServer(t *testing.T) {
	bare, e := tree.New(nil)
	if e != api.OK {
		t.Fatal(e)
	}
	said := of(t, 1)
	makes(t, said, 2, 0, num(0, 3), num(1, 0), num(3, 9), list(1, 0, 0, 0))
	for _, x := range []*tree.Tree{nil, bare, of(t, 0), of(t, 1), said} {
		for _, server := range []int{1, 2, 255, 256, -1, math.MaxInt} {
			for _, inst := range []int{-1, math.MinInt, 0, 1, making} {
				for _, obj := range []int{1, 2, 3, 5, 9, -1, 65535} {
					rights(t, x, server, obj, inst, 31)
				}
				rights(t, x, server, 0, inst, 0)
			}
		}
	}
	// It goes by how many instances there are, not by their numbers.
	x := of(t, 0)
	makes(t, x, 1, 700, num(0, 1))
	rights(t, x, 5, 3, 0, 31)
	makes(t, x, 1, 20, num(0, 1))
	rights(t, x, 5, 3, 0, 0)
}

// P20.2: a server that nothing is said of may do nothing with an instance where there are more.
func TestNothingIsSaid(t *testing.T) {
	x := two(t, 3, 0, 1, list(1, 31))
	for _, server := range []int{1, 2, 3, 256, 257, -1, -255, math.MaxInt, math.MinInt} {
		for _, at := range [][2]int{{1, 0}, {1, 1}, {3, 1}, {5, 0}, {5, 7}, {9, 0}, {-1, 0}, {65535, 65535}, {3, math.MaxInt}} {
			rights(t, x, server, at[0], at[1], 0)
		}
		if server != 1 {
			rights(t, x, server, 3, 0, 0)
		}
	}
	rights(t, x, 1, 3, 0, 31)
}

// P20.1: what a list says of a server, ahead of what it says of all others; the last pair of one counts, and of it the lowest five bits.
func TestWhatAListSays(t *testing.T) {
	for i, c := range []struct {
		list   []byte
		server int
		want   int
	}{
		{[]byte{1, 3}, 1, 3}, {[]byte{1, 3}, 2, 0}, {[]byte{1, 3, 0, 5}, 1, 3}, {[]byte{1, 3, 0, 5}, 2, 5}, {[]byte{0, 5, 1, 3}, 1, 3}, {[]byte{0, 5, 1, 3}, 2, 5}, {[]byte{0, 5, 1, 3}, 700, 5}, {[]byte{0, 5, 1, 3}, -1, 5},
		{[]byte{1, 0, 0, 31}, 1, 0}, {[]byte{0, 0}, 1, 0}, {[]byte{1, 0}, 1, 0}, {[]byte{0, 31}, 1, 31},
		{[]byte{1, 3, 2, 7, 1, 8}, 1, 8}, {[]byte{1, 8, 1, 3}, 1, 3}, {[]byte{0, 1, 0, 2}, 9, 2}, {[]byte{1, 31, 1, 0, 0, 9}, 1, 0}, {[]byte{1, 2, 1, 4}, 1, 4},
		{[]byte{1, 32}, 1, 0}, {[]byte{1, 255}, 1, 31}, {[]byte{1, 0xE3}, 1, 3}, {[]byte{0, 0x41}, 1, 1}, {[]byte{1, 16}, 1, 16},
		{[]byte{2, 3, 1}, 1, 0}, {[]byte{0, 7, 1}, 1, 7}, {[]byte{1, 3, 1}, 1, 3}, {[]byte{2, 1, 3, 4}, 1, 0}, {[]byte{2, 1, 1, 4}, 1, 4},
		{[]byte{255, 3}, 255, 3}, {[]byte{255, 3}, -1, 0}, {[]byte{1, 3}, 257, 0}, {[]byte{1, 3}, -255, 0}, {[]byte{0, 3, 0, 5}, 256, 5}, {[]byte{44, 3}, 300, 0},
		// The owner has what the list says, no more.
		{[]byte{1, 3}, 9, 0}, {[]byte{9, 1}, 9, 1}, {[]byte{0, 2}, 9, 2}, {[]byte{1, 0}, 9, 0},
	} {
		x := two(t, 3, 0, 9, list(c.list...))
		if got := access.Rights(x, c.server, 3, 0); got != c.want {
			t.Errorf("case %d: %v says %d of %d", i, c.list, got, c.server)
		}
	}
}

// P20.1: a list without a pair, or none, leaves all but making to the owner, and nothing to others.
func TestAListWithoutAPair(t *testing.T) {
	for _, more := range [][]Leaf{nil, {list()}, {list(1)}, {list(0)}, {list(9)}} {
		for _, owner := range []int{1, 2, 9, 255, 256, 65535} {
			x := two(t, 3, 0, owner, more...)
			for _, server := range []int{1, 2, 9, 255, 256, 65535, -1, 65536 + owner} {
				want := 0
				if server == owner {
					want = 15
				}
				rights(t, x, server, 3, 0, want)
			}
		}
		x := two(t, 3, 0, 0, more...)
		rights(t, x, 1, 3, 0, 0)
		rights(t, x, 0, 3, 0, 31)
	}
}

// P20.1: of several accesses of an instance the first one counts, by its number, whatever the others say.
func TestTheFirstAccessCounts(t *testing.T) {
	x := of(t, 2)
	makes(t, x, 2, 9, num(0, 3), num(1, 0), num(3, 9), list(1, 1))
	makes(t, x, 2, 30, num(0, 3), num(1, 0), num(3, 30), list(1, 2, 2, 2))
	rights(t, x, 1, 3, 0, 1)
	makes(t, x, 2, 4, num(0, 3), num(1, 0), num(3, 1))
	rights(t, x, 1, 3, 0, 15)
	rights(t, x, 2, 3, 0, 0)
	makes(t, x, 2, 3, num(0, 3), num(1, 1), num(3, 1), list(1, 4))
	makes(t, x, 2, 2, num(0, 5), num(1, 0), num(3, 1), list(1, 8))
	makes(t, x, 2, 1, num(0, 0), num(1, 3), num(3, 1), list(1, 31))
	rights(t, x, 1, 3, 0, 15)
	rights(t, x, 1, 3, 1, 4)
	rights(t, x, 1, 5, 0, 8)
	rights(t, x, 2, 3, 0, 0)
	for _, c := range [][3]int{{4, 15, 0}, {9, 1, 0}, {30, 2, 2}} {
		rights(t, x, 1, 3, 0, c[1])
		rights(t, x, 2, 3, 0, c[2])
		if e := x.Delete(2, c[0], true); e != api.OK {
			t.Fatal(e)
		}
	}
	rights(t, x, 1, 3, 0, 0)
}

// P20.1: an access of what isn't there says what it says.
func TestAnAccessOfWhatIsNotThere(t *testing.T) {
	for _, at := range [][2]int{{3, 0}, {3, 7}, {9, 0}, {65534, 65534}, {1, 0}} {
		x := two(t, at[0], at[1], 9, list(1, 3))
		rights(t, x, 1, at[0], at[1], 3)
		rights(t, x, 1, at[0], at[1]+1, 0)
		rights(t, x, 1, at[0]+2, at[1], 0)
		rights(t, x, 1, at[1]+70, at[0], 0)
	}
}

// P20.1: with an object as a whole: reading, and making, if its access says so.
func TestAnObjectAsAWhole(t *testing.T) {
	for i, c := range []struct {
		more  []Leaf
		wants [4]int // of servers 1, 2, 9 (the owner) and 300
	}{
		{nil, [4]int{1, 1, 17, 1}},
		{[]Leaf{list()}, [4]int{1, 1, 17, 1}},
		{[]Leaf{list(1)}, [4]int{1, 1, 17, 1}},
		{[]Leaf{list(1, 16)}, [4]int{17, 1, 1, 1}},
		{[]Leaf{list(1, 15)}, [4]int{1, 1, 1, 1}},
		{[]Leaf{list(1, 31, 2, 0)}, [4]int{17, 1, 1, 1}},
		{[]Leaf{list(0, 16)}, [4]int{17, 17, 17, 17}},
		{[]Leaf{list(0, 16, 1, 15)}, [4]int{1, 17, 17, 17}},
		{[]Leaf{list(0, 0, 2, 255)}, [4]int{1, 17, 1, 1}},
		{[]Leaf{list(1, 32)}, [4]int{1, 1, 1, 1}},
		{[]Leaf{list(9, 14)}, [4]int{1, 1, 1, 1}},
	} {
		x := two(t, 5, making, 9, c.more...)
		for n, server := range []int{1, 2, 9, 300} {
			for _, inst := range []int{-1, -2, -65535, math.MinInt} {
				if got := access.Rights(x, server, 5, inst); got != c.wants[n] {
					t.Errorf("case %d: server %d has %d", i, server, got)
				}
				rights(t, x, server, 3, inst, 1)
				rights(t, x, server, 77, inst, 1)
			}
			rights(t, x, server, 5, 0, 0)
		}
	}
	// An access of an instance says nothing of making one.
	x := two(t, 5, 0, 1, list(1, 31))
	rights(t, x, 1, 5, -1, 1)
	// Of making, too, the first one counts.
	makes(t, x, 2, 6, num(0, 5), num(1, making), num(3, 1), list(2, 16))
	makes(t, x, 2, 7, num(0, 5), num(1, making), num(3, 1))
	rights(t, x, 1, 5, -1, 1)
	rights(t, x, 2, 5, -1, 17)
}

// P20.1: asked as an instance's, an access of making says what any other one does.
func TestMakingAsAnInstance(t *testing.T) {
	x := two(t, 5, making, 1)
	rights(t, x, 1, 5, making, 15)
	rights(t, x, 2, 5, making, 0)
	rights(t, two(t, 5, making, 1, list(2, 21)), 2, 5, making, 21)
}

// P20.1: of object 2 the owner has all but making, and so has who asks for one that isn't there; others read.
func TestObject2(t *testing.T) {
	x := of(t, 2)
	makes(t, x, 2, 0, num(0, 3), num(1, 0), num(3, 1), list(1, 0, 2, 31))
	makes(t, x, 2, 5, num(0, 2), num(1, 0), num(3, 700), list(0, 31))
	makes(t, x, 2, 6, num(0, 2), num(1, making), num(3, 2), list(0, 31))
	for i, c := range []struct{ server, inst, want int }{
		{1, 0, 15}, {2, 0, 1}, {3, 0, 1}, {700, 0, 1}, {-1, 0, 1}, {65537, 0, 1},
		{1, 5, 1}, {2, 5, 1}, {700, 5, 15}, {188, 5, 1}, {1, 6, 1}, {2, 6, 15},
		{1, 1, 15}, {2, 4, 15}, {700, 7, 15}, {3, 65534, 15}, {3, making, 15}, {3, math.MaxInt, 15}, {-1, 9, 15},
		{1, -1, 15}, {2, -1, 15}, {3, math.MinInt, 15},
		{0, 0, 31}, {0, 1, 31}, {0, -1, 31},
	} {
		if got := access.Rights(x, c.server, 2, c.inst); got != c.want {
			t.Errorf("case %d: %d, want %d", i, got, c.want)
		}
	}
}

// P20.1: does a server have all of these rights.
func TestMay(t *testing.T) {
	lists := of(t, 2)
	for inst := range 8 {
		makes(t, lists, 2, inst, num(0, 3), num(1, inst), num(3, 9), list(1, byte(4*inst), 2, byte(4*inst+1), 3, byte(4*inst+2), 4, byte(4*inst+3)))
	}
	for has := range 32 {
		for right := -40; right < 80; right++ {
			want := right >= 0 && right < 32 && has|right == has
			if access.May(lists, 1+has%4, 3, has/4, right) != want {
				t.Errorf("who has %d, asked for %d: %t", has, right, !want)
			}
		}
		for _, right := range []int{math.MaxInt, math.MinInt, 1 << 32, 1<<32 + 1, 256, -32} {
			if access.May(lists, 1+has%4, 3, has/4, right) || access.May(lists, 0, 3, 0, right) || access.May(nil, 1, 3, 0, right) {
				t.Errorf("right %d", right)
			}
		}
	}
	x := two(t, 5, making, 1)
	for i, c := range []struct {
		server, obj, inst, right int
		want                     bool
	}{
		{0, 0, 0, 31, true}, {1, 0, 0, 0, true}, {1, 0, 0, 1, false}, {1, 5, -1, access.Read | access.Make, true}, {2, 5, -1, access.Make, false}, {2, 5, -1, access.Read, true}, {1, 5, -1, access.Write, false},
		{1, 5, 0, access.Read, false}, {1, 2, 7, 15, true}, {1, 2, 7, access.Make, false},
	} {
		if access.May(x, c.server, c.obj, c.inst, c.right) != c.want {
			t.Errorf("case %d: %t", i, !c.want)
		}
	}
	if !access.May(of(t, 1), 1, 3, 0, 31) || !access.May(nil, 1, 3, 0, 31) || access.May(nil, 1, 0, 0, 1) {
		t.Error("one server")
	}
}

// P20.1: who owns an instance: by its first access, however many servers there are.
func TestOwner(t *testing.T) {
	owner := func(x *tree.Tree, obj, inst, want int, wantOK bool) {
		t.Helper()
		if n, ok := access.Owner(x, obj, inst); n != want || ok != wantOK {
			t.Errorf("Owner of %d, %d: %d, %t", obj, inst, n, ok)
		}
	}
	for servers := range 3 {
		x := of(t, servers)
		owner(x, 3, 0, 0, false)
		makes(t, x, 2, 7, num(0, 3), num(1, 0), num(3, 65535))
		owner(x, 3, 0, 65535, true)
		makes(t, x, 2, 4, num(0, 3), num(1, 0), num(3, 0), list(1, 3))
		owner(x, 3, 0, 0, true)
		makes(t, x, 2, 0, num(0, 0), num(1, 0), num(3, 5))
		makes(t, x, 2, 1, num(0, 3), num(1, making), num(3, 6))
		owner(x, 3, 0, 0, true)
		owner(x, 0, 0, 5, true)
		owner(x, 3, making, 6, true)
		for _, at := range [][2]int{{3, 1}, {3, -1}, {0, 3}, {0, 1}, {2, 0}, {5, 0}, {-1, -1}, {3, math.MinInt}, {math.MaxInt, 0}, {3 + 1<<32, 0}} {
			owner(x, at[0], at[1], 0, false)
		}
	}
	owner(nil, 3, 0, 0, false)
}

// P20.1: the leaves of an access, that a tree takes.
func TestGrant(t *testing.T) {
	for _, c := range [][3]int{{3, 0, 1}, {0, 0, 0}, {65534, making, 65535}, {5, 7, 256}} {
		ls := access.Grant(c[0], c[1], c[2])
		want := []Leaf{num(0, c[0]), num(1, c[1]), num(3, c[2])}
		if !slices.EqualFunc(ls, want, sameLeaf) {
			t.Errorf("Grant of %v: %v", c, ls)
		}
		x := of(t, 2)
		makes(t, x, 2, 3, ls...)
		if n, ok := access.Owner(x, c[0], c[1]); n != c[2] || !ok {
			t.Errorf("Grant of %v: the owner is %d, %t", c, n, ok)
		}
	}
	// What is out of its range stays so: the tree refuses it.
	for _, c := range [][3]int{{-1, 0, 1}, {3, -1, 1}, {3, 0, -1}, {65535, 0, 1}, {3, 65536, 1}, {3, 0, 65536}, {math.MaxInt, math.MinInt, math.MaxInt}} {
		ls := access.Grant(c[0], c[1], c[2])
		if !slices.EqualFunc(ls, []Leaf{num(0, c[0]), num(1, c[1]), num(3, c[2])}, sameLeaf) {
			t.Errorf("Grant of %v: %v", c, ls)
		}
		if _, e := of(t, 2).Make(2, 0, ls, true); e != api.ErrArg {
			t.Errorf("Grant of %v: %d", c, e)
		}
	}
}

// sameLeaf holds two leaves against each other.
func sameLeaf(a, b Leaf) bool {
	return a.Res == b.Res && a.Val.Kind == b.Val.Kind && a.Val.N == b.Val.N && a.Val.S == b.Val.S && string(a.Val.B) == string(b.Val.B) && a.Val.Obj == b.Val.Obj && a.Val.Inst == b.Val.Inst
}

// P20.1: trees whose object 2 has other resources than the document's: what isn't there, or no number, tells nothing.
func TestOtherForms(t *testing.T) {
	n := func(id int) api.Rule { return api.Rule{ID: id, Kind: api.KInt, Most: 1 << 40} }
	s := func(id int) api.Rule { return api.Rule{ID: id, Kind: api.KText, Most: 10} }
	servers := api.Obj{ID: 1, Insts: 2}
	for i, c := range []struct {
		rules    []api.Rule
		leaves   []Leaf
		own      bool // an access of 0, 0, whose owner is 1
		whole    bool // and that is known
		wantRest int  // what server 1 may do with 2/0
	}{
		{[]api.Rule{n(0), n(1), n(3)}, []Leaf{num(0, 0), num(1, 0), num(3, 1)}, true, true, 15},
		{[]api.Rule{n(0), n(1), n(3)}, []Leaf{num(0, 0), num(1, 0)}, true, false, 1},
		{[]api.Rule{n(0), n(1)}, []Leaf{num(0, 0), num(1, 0)}, true, false, 1},
		{[]api.Rule{n(0), n(1), s(3)}, []Leaf{num(0, 0), num(1, 0), text(3, "1")}, true, false, 1},
		{[]api.Rule{s(0), n(1), n(3)}, []Leaf{text(0, "0"), num(1, 0), num(3, 1)}, false, false, 15},
		{[]api.Rule{n(0), n(1), n(3)}, []Leaf{num(1, 0), num(3, 1)}, false, false, 15},
		{[]api.Rule{n(0), n(1), n(3)}, []Leaf{num(0, 0), num(3, 1)}, false, false, 15},
		{nil, nil, false, false, 1},
	} {
		x, e := tree.New([]api.Obj{servers, {ID: 2, Insts: 2, Rules: c.rules}})
		if e != api.OK {
			t.Fatal(e)
		}
		makes(t, x, 1, 0)
		makes(t, x, 1, 1)
		makes(t, x, 2, 0, c.leaves...)
		owner, ok := access.Owner(x, 0, 0)
		if ok != c.whole || ok != (owner == 1) {
			t.Errorf("case %d: Owner: %d, %t", i, owner, ok)
		}
		if got := access.Rights(x, 1, 2, 0); got != c.wantRest {
			t.Errorf("case %d: Rights with 2/0: %d", i, got)
		}
	}
	x, e := tree.New([]api.Obj{servers, {ID: 2, Insts: 1, Rules: []api.Rule{n(0), n(1), s(2), n(3)}}})
	if e != api.OK {
		t.Fatal(e)
	}
	makes(t, x, 1, 0)
	makes(t, x, 1, 1)
	makes(t, x, 2, 0, num(0, 4), num(1, 1<<32), text(2, "aa"), num(3, 7))
	rights(t, x, 7, 4, 1<<32, 15)
	rights(t, x, 97, 4, 1<<32, 0)
	rights(t, x, 7, 4, 0, 0)
}
