package access_test

import (
	"math/rand"
	"testing"

	"outpost/access"
	"outpost/tree"
)

// row is an access of a model.
type row struct {
	num, obj, inst, owner int
	list                  []byte
}

// model knows how many servers there are, and all accesses, in any order.
type model struct {
	servers int
	rows    []row
}

// first is the access of an instance.
func (m model) first(obj, inst int) (found row, ok bool) {
	for _, r := range m.rows {
		if r.obj == obj && r.inst == inst && (!ok || r.num < found.num) {
			found, ok = r, true
		}
	}
	return found, ok
}

// rights is what a server may do, written otherwise: right by right.
func (m model) rights(server, obj, inst int) int {
	sum := 0
	for right := 1; right < 32; right *= 2 {
		if m.may(server, obj, inst, right) {
			sum += right
		}
	}
	return sum
}

// may tells of one right.
func (m model) may(server, obj, inst, right int) bool {
	if server == 0 {
		return true
	}
	if obj == 0 {
		return false
	}
	if m.servers < 2 {
		return true
	}
	if obj == 2 {
		for _, r := range m.rows {
			if r.num == inst && r.owner != server {
				return right == access.Read
			}
		}
		return right != access.Make
	}
	if inst < 0 && right != access.Make {
		return right == access.Read
	}
	asked := inst
	if inst < 0 {
		asked = making
	}
	r, ok := m.first(obj, asked)
	if !ok {
		return false
	}
	says := said(r.list)
	if len(says) == 0 {
		return r.owner == server && (right == access.Make) == (inst < 0)
	}
	has, ok := says[server]
	if !ok {
		has = says[0]
	}
	return has/right%2 == 1
}

// some is one of several numbers.
func some(r *rand.Rand, ns ...int) int { return ns[r.Intn(len(ns))] }

// someList is a list, or none.
func someList(r *rand.Rand) []byte {
	if r.Intn(3) == 0 {
		return nil
	}
	var b []byte
	for range r.Intn(5) {
		b = append(b, byte(some(r, 0, 1, 1, 2, 2, 3, 255, r.Intn(256))), byte(r.Intn(256)))
	}
	if r.Intn(4) == 0 {
		b = append(b, byte(r.Intn(4)))
	}
	return b
}

// someTree is a tree, and its model.
func someTree(t *testing.T, r *rand.Rand) (*tree.Tree, model) {
	t.Helper()
	m := model{servers: some(r, 0, 1, 2, 2, 2, 2)}
	x := of(t, m.servers)
	for _, n := range r.Perm(12)[:r.Intn(9)] {
		a := row{n, some(r, 0, 1, 2, 3, 3, 5, 5, 65534), some(r, 0, 0, 1, making, making), some(r, 0, 1, 1, 2, 2, 3, 255, 256, 257, 65535), someList(r)}
		m.rows = append(m.rows, a)
		ls := []Leaf{num(0, a.obj), num(1, a.inst), num(3, a.owner)}
		if a.list != nil || r.Intn(2) == 0 {
			ls = append(ls, list(a.list...))
		}
		makes(t, x, 2, n, ls...)
	}
	return x, m
}

// P20.1, P20.2, P2: whatever a tree has, whoever asks for what.
func TestAgainstAModel(t *testing.T) {
	r := rand.New(rand.NewSource(22))
	met := map[int]int{}
	for range 3000 {
		x, m := someTree(t, r)
		for _, server := range []int{0, 1, 2, 3, 255, 256, 257, 65535, -1} {
			for _, obj := range []int{0, 1, 2, 3, 5, 9, 65534, -1} {
				for _, inst := range []int{-7, -1, 0, 1, 2, 5, making} {
					want := m.rights(server, obj, inst)
					met[want]++
					if got := access.Rights(x, server, obj, inst); got != want {
						t.Fatalf("Rights of %d with %d, %d: %d, want %d, of %v", server, obj, inst, got, want, m)
					}
					right := r.Intn(34) - 1
					if got := access.May(x, server, obj, inst, right); got != (right >= 0 && right < 32 && right&^want == 0) {
						t.Fatalf("May of %d with %d, %d: %d: %t, of %v", server, obj, inst, right, got, m)
					}
					a, wantOK := m.first(obj, inst)
					if n, ok := access.Owner(x, obj, inst); n != a.owner || ok != wantOK {
						t.Fatalf("Owner of %d, %d: %d, %t, of %v", obj, inst, n, ok, m)
					}
				}
			}
		}
	}
	for n := range 32 {
		if met[n] < 100 {
			t.Errorf("rights %d were met %d times", n, met[n])
		}
	}
}
