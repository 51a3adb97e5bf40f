package access_test

import (
	"bytes"
	"slices"
	"testing"

	"outpost/access"
	"outpost/api"
	"outpost/tree"
)

// turn turns bytes, spare room too.
func turn(b []byte) {
	b = b[:cap(b)]
	for i := range b {
		b[i] ^= 255
	}
}

// P20.4: lists stay, behind their lengths too; what Allow answers is new memory, be the list turned or not.
func TestMemoryOfLists(t *testing.T) {
	for _, server := range []int{1, 2, 7, 256, -1} {
		for _, size := range []int{0, 1, 2, 5, 6} {
			row := []byte{1, 3, 2, 5, 1, 9, 'r', 'o', 'o', 'm'}
			then := slices.Clone(row)
			first, second := access.Allow(row[:size], server, 4), access.Allow(row[:size], server, 4)
			want := allows(then[:size], server, 4)
			if access.Lists(row[:size], server); !bytes.Equal(row, then) || !bytes.Equal(first, want) {
				t.Errorf("%d bytes, server %d: %v, of %v", size, server, first, row)
			}
			turn(first)
			if !bytes.Equal(row, then) || !bytes.Equal(second, want) {
				t.Errorf("%d bytes, server %d: memory is shared", size, server)
			}
			clear(row)
			if !bytes.Equal(second, want) {
				t.Errorf("%d bytes, server %d: the list is kept", size, server)
			}
		}
	}
}

// P20.4: leaves are new memory each time.
func TestMemoryOfGrant(t *testing.T) {
	first, second := access.Grant(3, 0, 1), access.Grant(3, 0, 1)
	first = first[:cap(first)]
	for i := range first {
		first[i] = Leaf{Res: -9, Val: Val{Kind: -9}}
	}
	want := []Leaf{num(0, 3), num(1, 0), num(3, 1)}
	if !slices.EqualFunc(second, want, sameLeaf) || !slices.EqualFunc(access.Grant(3, 0, 1), want, sameLeaf) {
		t.Error("two answers share memory")
	}
}

// all is what a tree has.
func all(t *testing.T, x *tree.Tree) []Leaf {
	t.Helper()
	var ls []Leaf
	for _, o := range x.Objs() {
		for _, inst := range x.Insts(o.ID) {
			some, ok := x.Leaves(o.ID, inst, true)
			if !ok {
				t.Fatal("an instance without leaves")
			}
			ls = append(ls, num(o.ID, inst))
			ls = append(ls, some...)
		}
	}
	return ls
}

// P20.4: a tree stays, and is asked anew each time.
func TestTheTreeStays(t *testing.T) {
	x := two(t, 3, 0, 1, list(1, 3, 2, 4))
	makes(t, x, 2, 1, num(0, 5), num(1, making), num(3, 2))
	before := all(t, x)
	for server := range 3 {
		for obj := range 6 {
			for inst := -1; inst < 3; inst++ {
				access.Rights(x, server, obj, inst)
				access.May(x, server, obj, inst, 1)
				access.Owner(x, obj, inst)
			}
		}
	}
	if !slices.EqualFunc(all(t, x), before, sameLeaf) {
		t.Error("the tree is turned")
	}
	rights(t, x, 2, 3, 0, 4)
	if e := x.Put(2, 0, []Leaf{list(2, 8)}, false, false); e != api.OK {
		t.Fatal(e)
	}
	rights(t, x, 2, 3, 0, 8)
	if e := x.Delete(1, 0, true); e != api.OK {
		t.Fatal(e)
	}
	rights(t, x, 2, 3, 0, 31)
}
