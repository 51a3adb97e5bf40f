package tree_test

import (
	"encoding/binary"
	"math/rand"
	"slices"
	"strings"
	"testing"

	"outpost/api"
	"outpost/schema"
	"outpost/tree"
)

// item is a value that may be told, with all that is to be known of it: whether it is right, the number that its rule bounds, and its bytes.
type item struct {
	val   Val
	right api.Errno
	size  int64
	wire  string
}

// number is the item of a number of a kind.
func number(kind int, n int64) item {
	wire := binary.BigEndian.AppendUint64(nil, uint64(n))
	for _, size := range []int{4, 2, 1} {
		if most := int64(1) << (8*size - 1); n >= -most && n < most {
			wire = wire[len(wire)-size:]
		}
	}
	return item{val: Val{Kind: kind, N: n}, size: n, wire: string(wire)}
}

// sized is the item of a text, or of bytes.
func sized(kind int, s string) item {
	it := item{val: Val{Kind: kind, S: s}, size: int64(len(s)), wire: s}
	if kind == api.KBytes {
		it.val = Val{Kind: kind, B: []byte(s)}
	}
	return it
}

// some is an item of a kind, mostly.
func some(r *rand.Rand, kind int) item {
	if r.Intn(12) == 0 {
		kind = r.Intn(9) - 1
	}
	n := []int64{-1, 0, 1, 2, 3, 9, 100, 128, 65535, 65536, 1 << 40, -129}[r.Intn(12)]
	switch kind {
	case api.KInt, api.KTime:
		return number(kind, n)
	case api.KBool:
		it := number(kind, n)
		if n != 0 && n != 1 {
			it.right = api.ErrArg
		}
		return it
	case api.KText, api.KBytes:
		it := sized(kind, strings.Repeat("a", []int{0, 1, 2, 3, 6, 64, 200, 201}[r.Intn(8)]))
		if r.Intn(6) == 0 {
			it = sized(kind, it.wire+"\n")
			it.right = either(kind == api.KText, api.ErrArg, api.OK)
		}
		if len(it.wire) > 200 {
			it.right = api.ErrArg
		}
		return it
	case api.KLink:
		it := item{val: Val{Kind: kind, Obj: r.Intn(3), Inst: r.Intn(70000)}}
		it.wire = string([]byte{0, byte(it.val.Obj), byte(it.val.Inst / 256), byte(it.val.Inst)})
		it.right = either(it.val.Inst > 65535, api.ErrArg, api.OK)
		return it
	}
	return item{val: Val{Kind: kind}, right: api.ErrKind}
}

// told is a leaf of an item.
type told struct {
	res int
	it  item
}

// key is a place of a model: an instance's own one has a res of -1.
type key struct{ obj, inst, res int }

// model has all instances and values in one row.
type model struct {
	forms []Obj
	rows  map[key]item
}

func (m *model) form(obj int) *Obj {
	for i := range m.forms {
		if m.forms[i].ID == obj {
			return &m.forms[i]
		}
	}
	return nil
}

func (m *model) insts(obj int) []int {
	var all []int
	// The model is never told a higher one.
	for inst := range 20 {
		if _, ok := m.rows[key{obj, inst, -1}]; ok {
			all = append(all, inst)
		}
	}
	return all
}

// blank is what stands for a resource.
func blank(r Rule) item {
	switch r.Kind {
	case api.KInt, api.KTime:
		return number(r.Kind, r.Least)
	case api.KText:
		return sized(r.Kind, strings.Repeat("x", int(r.Least)))
	case api.KBytes:
		return sized(r.Kind, strings.Repeat("\x00", int(r.Least)))
	case api.KBool:
		return number(r.Kind, 0)
	}
	return item{val: Val{Kind: api.KLink}, wire: "\x00\x00\x00\x00"}
}

// refuses is why a leaf isn't taken.
func refuses(o *Obj, l told, every bool) api.Errno {
	for _, r := range o.Rules {
		if r.ID != l.res {
			continue
		}
		bounded := r.Kind != api.KBool && r.Kind != api.KLink
		outside := l.it.size < r.Least || l.it.size > r.Most
		switch {
		case r.Exec, !every && !r.Write:
			return api.ErrMay
		case l.it.right != api.OK:
			return l.it.right
		case l.it.val.Kind != r.Kind:
			return api.ErrKind
		case bounded && outside:
			return api.ErrArg
		}
		return api.OK
	}
	return api.ErrNone
}

func (m *model) make(obj, inst int, ls []told, by bool) (int, api.Errno) {
	o := m.form(obj)
	if o == nil {
		return 0, api.ErrNone
	}
	if by == server && !o.Make {
		return 0, api.ErrMay
	}
	if inst > 65534 {
		return 0, api.ErrArg
	}
	there := m.insts(obj)
	if inst < 0 {
		for inst = 0; slices.Contains(there, inst); inst++ {
		}
	}
	if slices.Contains(there, inst) {
		return 0, api.ErrTwice
	}
	if len(there) == o.Insts {
		return 0, api.ErrFull
	}
	for _, l := range ls {
		if e := refuses(o, l, true); e != api.OK {
			return 0, e
		}
	}
	m.rows[key{obj, inst, -1}] = item{}
	m.lay(o, inst, ls)
	return inst, api.OK
}

func (m *model) put(obj, inst int, ls []told, whole, by bool) api.Errno {
	if _, ok := m.rows[key{obj, inst, -1}]; !ok {
		return api.ErrNone
	}
	o := m.form(obj)
	for _, l := range ls {
		if e := refuses(o, l, by == device); e != api.OK {
			return e
		}
	}
	for _, r := range o.Rules {
		if whole && (by == device || r.Write) {
			delete(m.rows, key{obj, inst, r.ID})
		}
	}
	m.lay(o, inst, ls)
	return api.OK
}

// lay lays leaves into an instance, and what it must have.
func (m *model) lay(o *Obj, inst int, ls []told) {
	for _, l := range ls {
		m.rows[key{o.ID, inst, l.res}] = l.it
	}
	for _, r := range o.Rules {
		at := key{o.ID, inst, r.ID}
		if _, ok := m.rows[at]; r.Must && !ok {
			m.rows[at] = blank(r)
		}
	}
}

func (m *model) delete(obj, inst int, by bool) api.Errno {
	if _, ok := m.rows[key{obj, inst, -1}]; !ok {
		return api.ErrNone
	}
	if by == server && !m.form(obj).Make {
		return api.ErrMay
	}
	for at := range m.rows {
		if at.obj == obj && at.inst == inst {
			delete(m.rows, at)
		}
	}
	return api.OK
}

func (m *model) clone() *model {
	other := &model{forms: m.forms, rows: map[key]item{}}
	for at, it := range m.rows {
		other.rows[at] = it
	}
	return other
}

// tlv is what stands at a path.
func (m *model) tlv(p []int, by bool) ([]Tlv, api.Errno) {
	if len(p) == 0 || len(p) > 3 || m.form(p[0]) == nil {
		return nil, api.ErrNone
	}
	if len(p) == 1 {
		var ts []Tlv
		for _, i := range m.insts(p[0]) {
			kids, _ := m.tlv([]int{p[0], i}, by)
			ts = append(ts, inst(i, kids...))
		}
		return ts, api.OK
	}
	if _, ok := m.rows[key{p[0], p[1], -1}]; !ok {
		return nil, api.ErrNone
	}
	var ts []Tlv
	for _, r := range m.form(p[0]).Rules {
		it, ok := m.rows[key{p[0], p[1], r.ID}]
		may := by == device || r.Read
		if len(p) == 3 && p[2] == r.ID && !may {
			return nil, api.ErrMay
		}
		if ok && may && (len(p) == 2 || p[2] == r.ID) {
			ts = append(ts, res(r.ID, it.wire))
		}
	}
	if len(p) == 3 && len(ts) == 0 {
		return nil, api.ErrNone
	}
	return ts, api.OK
}

// someForms are forms, the document's own or others.
func someForms(r *rand.Rand) []Obj {
	if r.Intn(2) == 0 {
		return schema.All()
	}
	var all []Obj
	for id := range 1 + r.Intn(4) {
		o := Obj{ID: 2 * id, Insts: 1 + r.Intn(8), Make: r.Intn(3) > 0}
		for res := range r.Intn(9) {
			bit := func() bool { return r.Intn(2) == 0 }
			rule := Rule{ID: res + r.Intn(2)*8, Kind: 1 + r.Intn(6), Read: bit(), Write: bit(), Must: bit(), Most: int64(1 + r.Intn(200))}
			if bit() {
				rule.Least = int64(r.Intn(int(min(rule.Most, 4))))
			}
			if r.Intn(8) == 0 {
				rule = Rule{ID: rule.ID, Exec: true}
			}
			o.Rules = append(o.Rules, rule)
		}
		slices.SortFunc(o.Rules, func(a, b Rule) int { return a.ID - b.ID })
		o.Rules = slices.CompactFunc(o.Rules, func(a, b Rule) bool { return a.ID == b.ID })
		all = append(all, o)
	}
	return all
}

// someLeaves are leaves of an object, mostly ones that are taken.
func someLeaves(r *rand.Rand, o *Obj) ([]told, []Leaf) {
	var ls []told
	for range r.Intn(6) {
		l := told{res: r.Intn(20) - 1, it: some(r, r.Intn(9)-1)}
		if o != nil && len(o.Rules) > 0 && r.Intn(20) > 0 {
			rule := o.Rules[r.Intn(len(o.Rules))]
			l = told{res: rule.ID, it: some(r, rule.Kind)}
			for range 9 {
				if refuses(o, l, r.Intn(9) > 0) != api.OK && r.Intn(20) > 0 {
					rule = o.Rules[r.Intn(len(o.Rules))]
					l = told{res: rule.ID, it: some(r, rule.Kind)}
				}
			}
		}
		ls = append(ls, l)
	}
	var leaves []Leaf
	for _, l := range ls {
		leaves = append(leaves, Leaf{l.res, l.it.val})
	}
	return ls, leaves
}

// holds holds all that a tree has against a model.
func holds(t *testing.T, x *tree.Tree, m *model) {
	t.Helper()
	for _, o := range m.forms {
		if got := x.Insts(o.ID); !slices.Equal(got, m.insts(o.ID)) || len(got) > o.Insts {
			t.Fatalf("Insts of %d: %v, want %v", o.ID, got, m.insts(o.ID))
		}
		for _, by := range []bool{device, server} {
			want, wantE := m.tlv([]int{o.ID}, by)
			if ts, e := x.Tlv([]int{o.ID}, by); !sameTlvs(ts, want) || e != wantE {
				t.Fatalf("Tlv of %d by %t: %v, %d, want %v, %d", o.ID, by, ts, e, want, wantE)
			}
		}
	}
}

// holdsAt holds all that a tree tells of an instance against a model.
func holdsAt(t *testing.T, x *tree.Tree, m *model, obj, inst int) {
	t.Helper()
	_, there := m.rows[key{obj, inst, -1}]
	for _, by := range []bool{device, server} {
		var want []Leaf
		for n := -1; n < 20; n++ {
			p := []int{obj, inst, n}
			it, ok := m.rows[key{obj, inst, n}]
			ok = ok && n >= 0
			ts, e := m.tlv(p, by)
			if ok && e == api.OK {
				want = append(want, Leaf{n, it.val})
			}
			if got, gotE := x.Tlv(p, by); !sameTlvs(got, ts) || gotE != e {
				t.Fatalf("Tlv of %v by %t: %v, %d, want %v, %d", p, by, got, gotE, ts, e)
			}
			if v, gotOK := x.Get(obj, inst, n); gotOK != ok || ok && !sameVal(v, it.val) || !ok && !sameVal(v, Val{}) {
				t.Fatalf("Get of %v: %v, %t", p, v, gotOK)
			}
			o := m.form(obj)
			hasRule := there && slices.ContainsFunc(o.Rules, func(r Rule) bool { return r.ID == n })
			if x.Has(p) != hasRule {
				t.Fatalf("Has of %v: %t", p, !hasRule)
			}
		}
		if ls, ok := x.Leaves(obj, inst, by); ok != there || !sameLeaves(ls, want) {
			t.Fatalf("Leaves of %d, %d by %t: %v, %t, want %v", obj, inst, by, ls, ok, want)
		}
	}
	if x.Has([]int{obj, inst}) != there || x.Has([]int{obj}) != (m.form(obj) != nil) {
		t.Fatalf("Has of %d, %d", obj, inst)
	}
}

// P19.1, P19.2, P19.3, P19.4, P2: whatever calls come, in whatever order, of trees that are cloned and become each other.
func TestAgainstAModel(t *testing.T) {
	r := rand.New(rand.NewSource(19))
	met := map[api.Errno]int{}
	for range 500 {
		f := someForms(r)
		xs, ms := []*tree.Tree{of(t, f), of(t, f)}, []*model{{f, map[key]item{}}, {f, map[key]item{}}}
		for range 60 {
			i := r.Intn(2)
			x, m := xs[i], ms[i]
			obj, inst, by, whole := f[r.Intn(len(f))].ID, r.Intn(4)-1, r.Intn(2) == 0, r.Intn(2) == 0
			switch r.Intn(20) {
			case 0:
				obj = r.Intn(10) - 1
			case 1:
				inst = 65535
			}
			ls, leaves := someLeaves(r, m.form(obj))
			var got, want api.Errno
			var n, wantN int
			switch r.Intn(12) {
			case 0:
				got, want = x.Delete(obj, inst, by), m.delete(obj, inst, by)
			case 1:
				xs[1-i], ms[1-i] = x.Clone(), m.clone()
			case 2:
				xs[1-i].Become(x)
				ms[1-i] = m.clone()
			case 3:
				x.Become(x)
			case 4, 5, 6:
				n, got = x.Make(obj, inst, leaves, by)
				wantN, want = m.make(obj, inst, ls, by)
			default:
				got, want = x.Put(obj, inst, leaves, whole, by), m.put(obj, inst, ls, whole, by)
			}
			if got != want || n != wantN {
				t.Fatalf("%d, %d, %v, all %t, by %t: %d, %d, want %d, %d", obj, inst, leaves, whole, by, n, got, wantN, want)
			}
			met[want]++
			holds(t, x, m)
			holdsAt(t, x, m, obj, inst)
			putBack(t, x, obj, inst)
		}
		holds(t, xs[0], ms[0])
		holds(t, xs[1], ms[1])
	}
	for _, e := range []api.Errno{api.OK, api.ErrNone, api.ErrMay, api.ErrArg, api.ErrTwice, api.ErrFull, api.ErrKind} {
		if met[e] < 100 {
			t.Errorf("error %d was met %d times", e, met[e])
		}
	}
}

// putBack holds that what an instance is told as is the same when it is put back.
func putBack(t *testing.T, x *tree.Tree, obj, inst int) {
	t.Helper()
	want, _ := x.Leaves(obj, inst, device)
	for _, by := range []bool{device, server} {
		ts, e := x.Tlv([]int{obj, inst}, by)
		if e != api.OK {
			return
		}
		ls, e := x.FromTlv(obj, ts)
		y := x.Clone()
		f := y.Put(obj, inst, ls, by == device, device)
		if got, _ := y.Leaves(obj, inst, device); e != api.OK || f != api.OK || !sameLeaves(got, want) {
			t.Fatalf("%d, %d put back: %v, %d, %d, want %v", obj, inst, got, e, f, want)
		}
	}
}
