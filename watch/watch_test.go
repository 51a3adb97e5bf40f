package watch_test

import (
	"math"
	"slices"
	"strings"
	"testing"

	"outpost/api"
	"outpost/watch"
)

// Short names of what is held here.
type (
	Val   = api.Val
	Cond  = api.Cond
	Watch = watch.Watch
)

// Bounds that the chapter names.
const (
	maxTicks = 1 << 40
	maxSeq   = 1<<24 - 1
)

// Values of each kind.
func num(n int64) Val        { return Val{Kind: api.KInt, N: n} }
func truth(n int64) Val      { return Val{Kind: api.KBool, N: n} }
func time(n int64) Val       { return Val{Kind: api.KTime, N: n} }
func text(s string) Val      { return Val{Kind: api.KText, S: s} }
func bytes(s string) Val     { return Val{Kind: api.KBytes, B: []byte(s)} }
func link(obj, inst int) Val { return Val{Kind: api.KLink, Obj: obj, Inst: inst} }
func nums(ns ...int64) []Val { return each(num, ns...) }

// each is a value of each number.
func each(of func(int64) Val, ns ...int64) []Val {
	var vals []Val
	for _, n := range ns {
		vals = append(vals, of(n))
	}
	return vals
}

// Conditions of one thing each.
func gt(n int64) Cond { return Cond{Gt: n, HasGt: true} }
func lt(n int64) Cond { return Cond{Lt: n, HasLt: true} }
func st(n int64) Cond { return Cond{St: n, HasSt: true} }

// between is a condition of times.
func between(least, most int64) Cond {
	return Cond{PMin: least, HasMin: true, PMax: most, HasMax: true}
}

// sameVal holds values against each other: a list that is nil and one that is empty are the same.
func sameVal(a, b Val) bool {
	return a.Kind == b.Kind && a.N == b.N && a.S == b.S && string(a.B) == string(b.B) && a.Obj == b.Obj && a.Inst == b.Inst
}

// same holds watches against each other.
func same(a, b Watch) bool {
	return a.Server == b.Server && string(a.Token) == string(b.Token) && slices.Equal(a.Path, b.Path) && a.Cond == b.Cond && sameVal(a.Val, b.Val) && a.At == b.At && a.Seq == b.Seq
}

// adds adds watches, and holds the answer.
func adds(t *testing.T, x *watch.Table, want api.Errno, ws ...Watch) {
	t.Helper()
	for _, w := range ws {
		if e := x.Add(w); e != want {
			t.Errorf("Add of %d, %v, %.40v: %d, want %d", w.Server, w.Token, w.Path, e, want)
		}
	}
}

// has holds all watches.
func has(t *testing.T, x *watch.Table, want ...Watch) {
	t.Helper()
	if got := x.All(); !slices.EqualFunc(got, want, same) || x.Len() != len(want) {
		t.Errorf("All: %v, Len: %d, want %v", got, x.Len(), want)
	}
}

// one is a table of one watch, of a value that was told at a time.
func one(t *testing.T, c Cond, v Val, at int64) *watch.Table {
	t.Helper()
	x := watch.New()
	adds(t, x, api.OK, Watch{Server: 1, Token: []byte("a"), Path: []int{3, 0, 9}, Cond: c, Val: v, At: at})
	return x
}

// isDue tells whether the one watch of a table is due, and holds what is told of it.
func isDue(t *testing.T, x *watch.Table, v Val, now int64) bool {
	t.Helper()
	before := x.All()[0]
	due := x.Due([]Val{v}, now)
	if len(due) == 0 {
		has(t, x, before)
		return false
	}
	want := before
	want.Val, want.At, want.Seq = v, min(max(now, 0), maxTicks), before.Seq+1
	if len(due) != 1 || !same(due[0], want) {
		t.Errorf("Due: %v, want %v", due, want)
	}
	has(t, x, want)
	return true
}

// P21.1: the document's own examples.
func TestExamples(t *testing.T) {
	x := one(t, Cond{PMin: 5, HasMin: true}, num(1), 0)
	for now := int64(1); now < 6; now++ {
		v := num(1)
		if now >= 3 {
			v = num(2)
		}
		if isDue(t, x, v, now) != (now == 5) {
			t.Errorf("at %d", now)
		}
	}
	x = one(t, gt(10), num(5), 0)
	if !isDue(t, x, num(11), 1) || isDue(t, x, num(12), 2) {
		t.Error("Gt 10")
	}
}

// P21.1: when a watch that was told at 100 is due, whether its value has changed or not.
func TestTimes(t *testing.T) {
	min := func(n int64) Cond { return Cond{PMin: n, HasMin: true} }
	max := func(n int64) Cond { return Cond{PMax: n, HasMax: true} }
	const never = math.MaxInt64
	for i, c := range []struct {
		cond            Cond
		changed, stayed int64 // from when on it is due
	}{
		{Cond{}, 101, never},
		{min(0), 101, never}, {min(1), 101, never}, {min(2), 102, never}, {min(65535), 65635, never}, {min(-1), 101, never}, {min(math.MinInt64), 101, never},
		{max(1), 101, 101}, {max(2), 101, 102}, {max(0), 101, never}, {max(-1), 101, never}, {max(math.MinInt64), 101, never}, {max(65535), 101, 65635},
		{between(5, 9), 105, 109}, {between(5, 5), 105, 105}, {between(5, 4), 105, 105}, {between(5, 1), 105, 105}, {between(5, 0), 105, never}, {between(0, 3), 101, 103}, {between(1, 1), 101, 101},
		// What isn't told doesn't count.
		{Cond{PMin: 50}, 101, never}, {Cond{PMax: 50}, 101, never}, {Cond{PMin: 9, PMax: 50, HasMax: true}, 101, 150}, {Cond{PMin: 9, HasMin: true, PMax: 5}, 109, never},
		{Cond{Gt: 1, Lt: 1, St: 1000}, 101, never},
		// Bounds of a value hold a change back, but not what is due by the time.
		{gt(50), never, never}, {Cond{Gt: 50, HasGt: true, PMax: 7, HasMax: true}, 107, 107}, {Cond{St: 50, HasSt: true, PMin: 9, HasMin: true, PMax: 7, HasMax: true}, 109, 109},
	} {
		for _, now := range []int64{100, 101, 102, 103, 104, 105, 106, 107, 108, 109, 110, 149, 150, 65634, 65635, 65636, maxTicks} {
			x := one(t, c.cond, num(1), 100)
			if isDue(t, x, num(2), now) != (now >= c.changed) {
				t.Errorf("case %d, changed, at %d", i, now)
			}
			x = one(t, c.cond, num(1), 100)
			if isDue(t, x, num(1), now) != (now >= c.stayed) {
				t.Errorf("case %d, stayed, at %d", i, now)
			}
		}
	}
}

// P21.1: a time ahead of a watch's own counts as that; one below 0 as 0, above MaxTicks as that.
func TestTimesThatCountAsOthers(t *testing.T) {
	max1 := Cond{PMax: 1, HasMax: true}
	for _, now := range []int64{-1, 0, 50, 99, 100, math.MinInt64} {
		x := one(t, max1, num(1), 100)
		if isDue(t, x, num(2), now) {
			t.Errorf("at %d", now)
		}
	}
	for at, want := range map[int64]int64{-1: 0, math.MinInt64: 0, 0: 0, 1: 1, maxTicks: maxTicks, maxTicks + 1: maxTicks, math.MaxInt64: maxTicks, maxTicks - 1: maxTicks - 1} {
		x := one(t, max1, num(1), at)
		if got := x.All()[0].At; got != want {
			t.Errorf("At %d counts as %d", at, got)
		}
		if isDue(t, x, num(2), want) || isDue(t, x, num(2), want+1) != (want < maxTicks) {
			t.Errorf("told at %d", at)
		}
	}
	for _, late := range []int64{maxTicks, maxTicks + 1, math.MaxInt64} {
		x := one(t, max1, num(1), maxTicks-1)
		if !isDue(t, x, num(2), late) || isDue(t, x, num(3), late) || isDue(t, x, num(3), math.MaxInt64) {
			t.Errorf("at %d", late)
		}
		x = one(t, between(2, 2), num(1), maxTicks-1)
		if isDue(t, x, num(2), late) {
			t.Errorf("at %d, told a tick ahead", late)
		}
	}
	// Each watch has a time of its own.
	x := one(t, max1, num(1), 100)
	adds(t, x, api.OK, Watch{Server: 2, Cond: max1, Val: num(5), At: 7})
	if due := x.Due(nil, 50); len(due) != 1 || due[0].Server != 2 || due[0].At != 50 || !sameVal(due[0].Val, num(5)) {
		t.Errorf("Due: %v", due)
	}
}

// P21.1: which changes of numbers are told, one behind the other; whatever kind of number they are.
func TestNumbersThatChange(t *testing.T) {
	const least, most = math.MinInt64, math.MaxInt64
	for i, c := range []struct {
		cond Cond
		ns   []int64
		want []int // which of these are told
	}{
		{Cond{}, []int64{1, 1, 2, 1, 1}, []int{2, 3}},
		{gt(5), []int64{4, 5, 6, 7, 6, 5, 4, 6}, []int{2, 5, 7}},
		{gt(5), []int64{6, 7, 5}, []int{2}},
		{gt(5), []int64{least, most, least}, []int{1, 2}},
		{gt(most), []int64{least, most, 0}, nil},
		{gt(least), []int64{least, least + 1, most, least}, []int{1, 3}},
		{gt(0), []int64{-1, 0, 1, 0, -1}, []int{2, 3}},
		{lt(5), []int64{6, 5, 4, 3, 4, 5, 6, 4}, []int{2, 5, 7}},
		{lt(5), []int64{4, 3, 5}, []int{2}},
		{lt(least), []int64{least, most, 0}, nil},
		{lt(most), []int64{most, most - 1, least, most}, []int{1, 3}},
		{lt(-3), []int64{-3, -4, -5, -3}, []int{1, 3}},
		{st(3), []int64{0, 1, 2, 3, 5, 6, 3, 0, 2}, []int{3, 5, 6, 7}},
		{st(1), []int64{0, 1, 1, 0}, []int{1, 3}},
		{st(0), []int64{0, 1, 1, 0}, []int{1, 3}},
		{st(-7), []int64{0, 1, 1, 0}, []int{1, 3}},
		{st(most), []int64{0, most, 0, least, 0}, []int{1, 2, 3, 4}},
		{st(most), []int64{most - 1, 0, -1, -2}, []int{2}},
		{st(most), []int64{most, 1, 0, 1, least}, []int{2, 4}},
		{st(most), []int64{least, most, least, -2, -1}, []int{1, 2, 4}},
		{st(most - 1), []int64{1, most, 2, least, 0}, []int{1, 3, 4}},
		{st(least), []int64{3, 3, 4}, []int{2}},
		// Of several that are told one is enough.
		{Cond{Gt: 10, HasGt: true, Lt: 0, HasLt: true}, []int64{5, 6, 11, 12, 10, 0, -1, -2, 0, -5, 20}, []int{2, 4, 6, 8, 9, 10}},
		{Cond{Gt: 10, HasGt: true, St: 4, HasSt: true}, []int64{9, 10, 11, 13, 14, 15, 11, 10}, []int{2, 5, 6, 7}},
		{Cond{Lt: 10, HasLt: true, St: 4, HasSt: true}, []int64{10, 9, 8, 6, 5, 10}, []int{1, 4, 5}},
		{Cond{Gt: 100, HasGt: true, Lt: -100, HasLt: true, St: 50, HasSt: true}, []int64{0, 49, -49, -50, 0, 101, 150, 100}, []int{3, 4, 5, 7}},
		// What isn't told doesn't count.
		{Cond{Gt: 5, HasLt: true, St: 9}, []int64{1, 6, 20, -1, 0}, []int{3, 4}},
		{Cond{Lt: 5, HasGt: true}, []int64{6, 4, 1, 0, 1}, []int{3, 4}},
		{Cond{St: 1, HasGt: true}, []int64{6, 4, 1, 2}, nil},
	} {
		for _, of := range []func(int64) Val{num, time, truth} {
			x := one(t, c.cond, of(c.ns[0]), 0)
			var told []int
			for n := 1; n < len(c.ns); n++ {
				if isDue(t, x, of(c.ns[n]), int64(n)) {
					told = append(told, n)
				}
			}
			if !slices.Equal(told, c.want) {
				t.Errorf("case %d: told are %v", i, told)
			}
		}
	}
}

// P21.1: what has changed, of all kinds; where not both are numbers, bounds of numbers aren't asked.
func TestValuesThatChange(t *testing.T) {
	vals := []Val{{}, num(0), num(1), truth(0), truth(1), time(0), time(1), text(""), text("a"), text("b"), text("a\x00"), bytes(""), bytes("a"), bytes("b"), bytes("ab"), link(0, 0), link(1, 0), link(0, 1), link(5, 3), {Kind: 7}, {Kind: -1, N: 1}, {Kind: 7, N: 1}, {Kind: 7, S: "a"}, {Kind: 7, B: []byte("a")}, {Kind: 7, Obj: 1}, {Kind: 7, Inst: 1}, {Kind: math.MaxInt}}
	isNumber := func(v Val) bool { return v.Kind == 1 || v.Kind == 2 || v.Kind == 5 }
	for i, a := range vals {
		for k, b := range vals {
			if isDue(t, one(t, Cond{}, a, 0), b, 1) != (i != k) {
				t.Errorf("from %v to %v", a, b)
			}
			numbers := isNumber(a) && isNumber(b)
			for _, c := range []Cond{gt(0), lt(1), st(1)} {
				want := i != k && (!numbers || a.N != b.N)
				if isDue(t, one(t, c, a, 0), b, 1) != want {
					t.Errorf("%v: from %v to %v: %t", c, a, b, !want)
				}
			}
			// Of numbers of another kind the difference is that of the numbers.
			for _, c := range []Cond{gt(9), lt(-9), st(2)} {
				if isDue(t, one(t, c, a, 0), b, 1) != (i != k && !numbers) {
					t.Errorf("%v: from %v to %v", c, a, b)
				}
			}
			if isDue(t, one(t, st(0), a, 0), b, 1) != (i != k) {
				t.Errorf("St 0: from %v to %v", a, b)
			}
		}
	}
	// Bytes that are nil and such that are empty are the same.
	if isDue(t, one(t, Cond{}, Val{Kind: api.KBytes}, 0), Val{Kind: api.KBytes, B: []byte{}}, 1) || isDue(t, one(t, Cond{}, bytes(""), 0), Val{Kind: api.KBytes}, 1) {
		t.Error("no bytes have changed into no bytes")
	}
}

// P21.1: a value that was held back is told once it may be, and one that is back again isn't.
func TestHeldBack(t *testing.T) {
	x := one(t, between(4, 10), num(1), 0)
	if isDue(t, x, num(2), 1) || isDue(t, x, num(1), 4) || !isDue(t, x, num(3), 5) || isDue(t, x, num(1), 8) || !isDue(t, x, num(1), 9) || isDue(t, x, num(1), 18) || !isDue(t, x, num(1), 19) {
		t.Error("between 4 and 10")
	}
	// Against the value that was told last a change is held, not against the one that was asked about last.
	x = one(t, st(10), num(0), 0)
	for n := int64(1); n < 10; n++ {
		if isDue(t, x, num(n), n) {
			t.Errorf("%d", n)
		}
	}
	if !isDue(t, x, num(10), 10) {
		t.Error("10")
	}
}

// P21.1: the values go by place; of one that has none the value that was told last counts, and others count for nothing.
func TestPlaces(t *testing.T) {
	max3 := Cond{PMax: 3, HasMax: true}
	table := func() *watch.Table {
		x := watch.New()
		for i, c := range []Cond{{}, max3, {}, max3} {
			adds(t, x, api.OK, Watch{Server: i, Token: []byte{9}, Path: []int{i}, Cond: c, Val: num(int64(i))})
		}
		return x
	}
	for i, c := range []struct {
		vals []Val
		now  int64
		want string // the servers that are told, in order, and what
	}{
		{nil, 2, ""}, {nil, 3, "1=1 3=3"}, {[]Val{}, 3, "1=1 3=3"},
		{nums(7), 1, "0=7"}, {nums(7), 3, "0=7 1=1 3=3"}, {nums(0, 1, 2, 3), 2, ""}, {nums(0, 1, 2, 3), 3, "1=1 3=3"},
		{nums(0, 1, 9), 1, "2=9"}, {nums(0, 9), 1, "1=9"}, {nums(9, 8, 7, 6), 1, "0=9 1=8 2=7 3=6"}, {nums(9, 8, 7, 6, 5, 4, 3, 2, 1), 1, "0=9 1=8 2=7 3=6"}, {nums(0, 1, 2, 3, 4, 5), 1, ""},
	} {
		x := table()
		var told []string
		for _, w := range x.Due(c.vals, c.now) {
			told = append(told, string([]byte{'0' + byte(w.Server), '=', '0' + byte(w.Val.N)}))
			if w.At != c.now || w.Seq != 1 || w.Path[0] != w.Server {
				t.Errorf("case %d: %v", i, w)
			}
		}
		if strings.Join(told, " ") != c.want {
			t.Errorf("case %d: %v, want %s", i, told, c.want)
		}
		for _, w := range x.All() {
			if is := strings.Contains(c.want, string([]byte{'0' + byte(w.Server), '='})); is != (w.Seq == 1) || is != (w.At == c.now) {
				t.Errorf("case %d: %v", i, w)
			}
		}
	}
	// The zero value is one as others are.
	x := table()
	if due := x.Due([]Val{num(0), {}}, 1); len(due) != 1 || due[0].Server != 1 || !sameVal(due[0].Val, Val{}) {
		t.Errorf("Due: %v", due)
	}
	if due := watch.New().Due(nums(1, 2), 5); len(due) > 0 {
		t.Errorf("Due of none: %v", due)
	}
}

// P21.1: a watch behind all others, or in the place of one of the same server and token.
func TestAdd(t *testing.T) {
	x := watch.New()
	has(t, x)
	a := Watch{Server: 1, Token: []byte("a"), Path: []int{3, 0, 9}, Cond: between(1, 2), Val: text("v"), At: 7}
	b := Watch{Server: 1, Token: []byte("b"), Path: []int{3, 0, 9}, Val: num(5)}
	c := Watch{Server: 2, Token: []byte("a"), Path: []int{5, 0}, At: 9}
	none := Watch{Server: 1, Path: []int{1}}
	adds(t, x, api.OK, a, b, c, none)
	has(t, x, a, b, c, none)
	other := Watch{Server: 1, Token: []byte("b"), Cond: gt(7), Val: bytes("x"), At: 3}
	adds(t, x, api.OK, other)
	has(t, x, a, other, c, none)
	// A token that is nil and one that is empty are the same.
	empty := Watch{Server: 1, Token: []byte{}, Path: []int{65535, 0, 65535}}
	adds(t, x, api.OK, empty)
	has(t, x, a, other, c, empty)
	// It begins anew: with number 0, whatever is handed in, and whatever was told.
	if due := x.Due([]Val{num(1), num(1), num(1), num(1)}, 20); len(due) != 4 {
		t.Errorf("Due: %v", due)
	}
	for _, seq := range []int{0, 1, 77, -1, maxSeq, math.MaxInt} {
		a.Seq = seq
		adds(t, x, api.OK, a)
		if w := x.All()[0]; w.Seq != 0 || w.At != 7 || x.All()[1].Seq != 1 {
			t.Errorf("Seq %d: %v", seq, x.All())
		}
	}
}

// P21.1: tokens and servers are told apart, whatever they are.
func TestWhose(t *testing.T) {
	tokens := []string{"", "a", "b", "aa", "a\x00", "\x00", "12345678", "12345679"}
	servers := []int{0, 1, -1, 256, 1 << 32, math.MinInt, math.MaxInt}
	for _, server := range servers {
		for _, token := range tokens {
			x := watch.New()
			adds(t, x, api.OK, Watch{Server: server, Token: []byte(token)})
			for _, s := range servers {
				for _, k := range tokens {
					if is := s == server && k == token; x.Turn(s, []byte(k), Cond{PMin: 1, HasMin: true}) != is || !is && x.Drop(s, []byte(k)) {
						t.Errorf("%d, %q is told as %d, %q", server, token, s, k)
					}
				}
				if n := x.DropServer(s); n != 0 && s != server || n == 0 && s == server {
					t.Errorf("DropServer of %d: %d", s, n)
				}
				if s == server {
					adds(t, x, api.OK, Watch{Server: server, Token: []byte(token)})
				}
			}
			if !x.Drop(server, []byte(token)) || x.Drop(server, []byte(token)) || x.Len() != 0 {
				t.Errorf("Drop of %d, %q", server, token)
			}
		}
	}
}

// P21.1: ErrArg is told ahead of ErrFull, and of a place that is there; neither turns what is there.
func TestRefused(t *testing.T) {
	x := watch.New()
	var all []Watch
	wrong := []Watch{
		{Server: 1, Token: []byte("123456789")}, {Server: 1, Token: make([]byte, 1<<16)},
		{Server: 1, Path: []int{-1}}, {Server: 1, Path: []int{3, 65536}}, {Server: 1, Path: []int{1, 2, 3, 4}}, {Server: 1, Path: []int{1, 2, math.MinInt}}, {Server: 1, Path: make([]int, 1<<16)}, {Server: 1, Token: []byte("123456789"), Path: []int{-1}},
	}
	for i := range 6 {
		adds(t, x, api.ErrArg, wrong...)
		has(t, x, all...)
		all = append(all, Watch{Server: 1 + i, Token: []byte("12345678")[:i+3], Path: []int{3, 0, 9}[:i%4], Val: num(int64(i)), At: int64(i)})
		adds(t, x, api.OK, all[i])
		has(t, x, all...)
	}
	adds(t, x, api.ErrArg, wrong...)
	adds(t, x, api.ErrFull, Watch{}, Watch{Server: 1}, Watch{Server: 7, Token: []byte("123")}, Watch{Server: 1, Token: []byte("1234")})
	has(t, x, all...)
	// In the place of one there is room; not of one whose path isn't one.
	for i := range all {
		all[i].Path, all[i].Val, all[i].At = []int{i}, text("new"), int64(50+i)
		adds(t, x, api.OK, all[i])
		has(t, x, all...)
		bad := all[i]
		bad.Path, bad.Val = []int{70000}, text("bad")
		adds(t, x, api.ErrArg, bad)
		has(t, x, all...)
	}
	if !x.Drop(3, []byte("12345")) {
		t.Error("Drop")
	}
	all = append(slices.Delete(all, 2, 3), Watch{Server: -5, Val: link(1, 2)})
	adds(t, x, api.OK, all[5])
	has(t, x, all...)
	adds(t, x, api.ErrFull, Watch{Server: -6})
}

// P21.1: a condition is turned, and nothing else.
func TestTurn(t *testing.T) {
	x := one(t, Cond{}, num(1), 3)
	b := Watch{Server: 2, Token: []byte("a"), Cond: gt(1), Val: num(1), At: 3}
	adds(t, x, api.OK, b)
	if !isTold(x, 4) {
		t.Error("Due")
	}
	a := x.All()[0]
	for _, c := range []Cond{between(5, 9), gt(-3), {}, {PMin: -1, PMax: -1, HasMin: true, HasMax: true, Gt: 1, Lt: 2, St: 3, HasGt: true, HasLt: true, HasSt: true}, {PMin: 3, St: -9}} {
		if !x.Turn(1, []byte("a"), c) {
			t.Errorf("Turn to %v", c)
		}
		a.Cond = c
		has(t, x, a, b)
	}
	for _, who := range []struct {
		server int
		token  string
	}{{1, ""}, {1, "b"}, {1, "aa"}, {3, "a"}, {0, ""}, {-1, "a"}, {1, "123456789"}, {2, ""}} {
		if x.Turn(who.server, []byte(who.token), gt(9)) || x.Drop(who.server, []byte(who.token)) {
			t.Errorf("%v is there", who)
		}
		has(t, x, a, b)
	}
	// What counts is the condition of now, against what was told under the elder one.
	x = one(t, between(50, 60), num(1), 0)
	if isDue(t, x, num(2), 10) || !x.Turn(1, []byte("a"), Cond{}) || !isDue(t, x, num(2), 10) || !x.Turn(1, []byte("a"), between(5, 7)) || isDue(t, x, num(2), 16) || !isDue(t, x, num(2), 17) {
		t.Error("Turn while it is held back")
	}
}

// isTold tells whether the first watch alone is told of a change.
func isTold(x *watch.Table, now int64) bool {
	due := x.Due(nums(7), now)
	return len(due) == 1 && due[0].Server == 1
}

// six is a full table, of watches of several servers and paths.
func six(t *testing.T) (*watch.Table, []Watch) {
	t.Helper()
	var all []Watch
	for i, p := range [][]int{{3, 0, 1}, {3, 0, 9}, {3}, {}, {3, 1}, {5, 0, 3}} {
		all = append(all, Watch{Server: 1 + i%2, Token: []byte{byte(i)}, Path: p})
	}
	x := watch.New()
	adds(t, x, api.OK, all...)
	return x, all
}

// P21.1: what is taken away, how many, and that the others stay as they are, in order.
func TestDropPathAndServer(t *testing.T) {
	for i, c := range []struct {
		p    []int
		left string // the tokens of what is left
	}{
		{nil, ""}, {[]int{}, ""}, {[]int{3}, "35"}, {[]int{3, 0}, "2345"}, {[]int{3, 0, 1}, "12345"}, {[]int{3, 0, 9}, "02345"}, {[]int{3, 1}, "01235"}, {[]int{5}, "01234"}, {[]int{5, 0}, "01234"}, {[]int{5, 0, 3}, "01234"},
		{[]int{0}, "012345"}, {[]int{3, 2}, "012345"}, {[]int{3, 0, 2}, "012345"}, {[]int{0, 3}, "012345"}, {[]int{5, 0, 3, 0}, "012345"}, {[]int{3, 0, 1, 1}, "012345"}, {[]int{-1}, "012345"}, {[]int{65536}, "012345"}, {make([]int, 1<<16), "012345"}, {[]int{5, 3}, "012345"}, {[]int{3 + 1<<32}, "012345"},
	} {
		x, all := six(t)
		if n := x.DropPath(c.p); n != 6-len(c.left) {
			t.Errorf("case %d: %d are gone", i, n)
		}
		holdsLeft(t, x, all, c.left)
		if n := x.DropPath(c.p); n != 0 {
			t.Errorf("case %d: %d are gone once more", i, n)
		}
	}
	for server, left := range map[int]string{1: "135", 2: "024", 0: "012345", 3: "012345", -1: "012345", 257: "012345", 1 + 1<<32: "012345"} {
		x, all := six(t)
		if n := x.DropServer(server); n != 6-len(left) || x.DropServer(server) != 0 {
			t.Errorf("DropServer of %d: %d", server, n)
		}
		holdsLeft(t, x, all, left)
	}
	for i := range 6 {
		x, all := six(t)
		if !x.Drop(all[i].Server, all[i].Token) || x.Drop(all[i].Server, all[i].Token) {
			t.Errorf("Drop of %d", i)
		}
		holdsLeft(t, x, all, "012345"[:i]+"012345"[i+1:])
	}
	x := watch.New()
	if x.Drop(1, nil) || x.DropPath(nil) != 0 || x.DropServer(1) != 0 || x.Turn(1, nil, Cond{}) {
		t.Error("of none something is gone")
	}
}

// holdsLeft holds which watches are left, by their places, and that what is left goes on, with room for others.
func holdsLeft(t *testing.T, x *watch.Table, all []Watch, left string) {
	t.Helper()
	var want []Watch
	for _, at := range left {
		want = append(want, all[at-'0'])
	}
	has(t, x, want...)
	for i := range 6 - len(left) {
		w := Watch{Server: 9, Token: []byte{'n', byte(i)}, Path: []int{9}}
		adds(t, x, api.OK, w)
		want = append(want, w)
	}
	has(t, x, want...)
	adds(t, x, api.ErrFull, Watch{Server: 10})
	if n := x.DropServer(9); n != 6-len(left) {
		t.Errorf("%d new ones are gone", n)
	}
	has(t, x, want[:len(left)]...)
}

// P21.1: what is gone and comes again begins anew, behind all others.
func TestDroppedAndAdded(t *testing.T) {
	x, all := six(t)
	if due := x.Due(nums(1, 1, 1, 1, 1, 1), 5); len(due) != 6 {
		t.Errorf("Due: %v", due)
	}
	if !x.Drop(1, []byte{0}) {
		t.Error("Drop")
	}
	adds(t, x, api.OK, all[0])
	got := x.All()
	if !same(got[5], all[0]) || got[0].Seq != 1 || got[4].Seq != 1 || got[0].Token[0] != 1 {
		t.Errorf("All: %v", got)
	}
	// The values go by the places of now.
	if due := x.Due(nums(1, 1, 1, 1, 1, 7), 6); len(due) != 1 || due[0].Token[0] != 0 || due[0].Seq != 1 || due[0].Val.N != 7 {
		t.Errorf("Due: %v", due)
	}
}
