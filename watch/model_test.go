package watch_test

import (
	"math"
	"math/big"
	"math/rand"
	"slices"
	"strconv"
	"testing"

	"outpost/api"
	"outpost/watch"
)

// key is whose a watch is.
type key struct {
	server int
	token  string
}

// entry is a watch of a model: what it is, and in which turn it came.
type entry struct {
	Watch
	turn int
}

// model has watches by whose they are.
type model struct {
	all   map[key]entry
	turns int
}

// ordered are the keys in order.
func (m *model) ordered() []key {
	var ks []key
	for k := range m.all {
		ks = append(ks, k)
	}
	slices.SortFunc(ks, func(a, b key) int { return m.all[a].turn - m.all[b].turn })
	return ks
}

// watches are all in order.
func (m *model) watches() []Watch {
	var ws []Watch
	for _, k := range m.ordered() {
		ws = append(ws, m.all[k].Watch)
	}
	return ws
}

func (m *model) add(w Watch) api.Errno {
	right := len(w.Token) < 9 && len(w.Path) < 4
	for _, n := range w.Path {
		right = right && n == int(uint16(n))
	}
	if !right {
		return api.ErrArg
	}
	k := key{w.Server, string(w.Token)}
	old, ok := m.all[k]
	if !ok && len(m.all) == 6 {
		return api.ErrFull
	}
	turn := old.turn
	if !ok {
		m.turns++
		turn = m.turns
	}
	w.At, w.Seq = bound(w.At).Int64(), 0
	m.all[k] = entry{w, turn}
	return api.OK
}

// drop takes away, and counts.
func (m *model) drop(goes func(k key, p string) bool) int {
	n := 0
	for _, k := range m.ordered() {
		if goes(k, words(m.all[k].Path)) {
			delete(m.all, k)
			n++
		}
	}
	return n
}

// words are numbers as text, each with a sign behind.
func words(p []int) string {
	s := ""
	for _, n := range p {
		s += strconv.Itoa(n) + "/"
	}
	return s
}

// due is what is due.
func (m *model) due(vals []Val, now int64) []Watch {
	var ws []Watch
	for i, k := range m.ordered() {
		e := m.all[k]
		v := e.Val
		if i < len(vals) {
			v = vals[i]
		}
		at := bound(now).Int64()
		if at < e.At || !tells(e.Watch, v, at-e.At) {
			continue
		}
		e.Val, e.At = v, at
		e.Seq++
		m.all[k] = e
		ws = append(ws, e.Watch)
	}
	return ws
}

// tells tells whether a watch is due, so many ticks behind: reason by reason, in big numbers.
func tells(w Watch, v Val, gone int64) bool {
	c := w.Cond
	least := int64(1)
	if c.HasMin && c.PMin > 1 {
		least = c.PMin
	}
	if gone < least {
		return false
	}
	if c.HasMax && c.PMax >= 1 && c.PMax <= gone {
		return true
	}
	if sameVal(w.Val, v) {
		return false
	}
	for _, x := range []Val{w.Val, v} {
		if !slices.Contains([]int{1, 2, 5}, x.Kind) {
			return true
		}
	}
	low, high := big.NewInt(min(w.Val.N, v.N)), big.NewInt(max(w.Val.N, v.N))
	reasons := 0
	if c.HasGt {
		reasons++
		if g := big.NewInt(c.Gt); low.Cmp(g) <= 0 && high.Cmp(g) > 0 {
			return true
		}
	}
	if c.HasLt {
		reasons++
		if l := big.NewInt(c.Lt); low.Cmp(l) < 0 && high.Cmp(l) >= 0 {
			return true
		}
	}
	if c.HasSt {
		reasons++
		apart := new(big.Int).Sub(high, low)
		if !apart.IsInt64() {
			apart.SetInt64(math.MaxInt64)
		}
		if apart.Cmp(big.NewInt(c.St)) >= 0 {
			return true
		}
	}
	return reasons == 0
}

// some is one of several numbers.
func some(r *rand.Rand, ns ...int64) int64 { return ns[r.Intn(len(ns))] }

// someVal is a value, mostly a number.
func someVal(r *rand.Rand) Val {
	n := some(r, 0, 0, 1, 1, 2, 5, 9, 10, 11, -1, -10, 100, math.MaxInt64, math.MinInt64)
	switch r.Intn(10) {
	case 0:
		return text([]string{"", "a", "b"}[r.Intn(3)])
	case 1:
		return bytes([]string{"", "a", "b"}[r.Intn(3)])
	case 2:
		return link(r.Intn(2), r.Intn(2))
	case 3:
		return time(n)
	case 4:
		return truth(n)
	case 5:
		return Val{Kind: r.Intn(9) - 1, N: n}
	}
	return num(n)
}

// someCond is a condition, of which some is told.
func someCond(r *rand.Rand) Cond {
	bit := func() bool { return r.Intn(3) == 0 }
	c := Cond{HasMin: bit(), HasMax: bit(), HasGt: bit(), HasLt: bit(), HasSt: bit()}
	c.PMin = some(r, 0, 1, 2, 5, 9, 65535, -1, math.MaxInt64)
	c.PMax = some(r, 0, 1, 3, 6, 9, 65535, -1, math.MinInt64)
	c.Gt = some(r, 0, 1, 5, 10, -10, math.MaxInt64, math.MinInt64)
	c.Lt = some(r, 0, 1, 5, 10, -10, math.MaxInt64, math.MinInt64)
	c.St = some(r, 0, 1, 2, 10, 100, -1, math.MaxInt64, math.MinInt64)
	return c
}

// someWho is whose a watch is.
func someWho(r *rand.Rand) (int, []byte) {
	return r.Intn(3), []byte([]string{"", "a", "b", "12345678"}[r.Intn(4)])
}

// somePath is a path, mostly.
func somePath(r *rand.Rand) []int {
	var p []int
	for range r.Intn(4) {
		p = append(p, int(some(r, 0, 3, 3, 3, 5, 9, 65535)))
	}
	switch r.Intn(30) {
	case 0:
		p = append(p, 1, 2, 3)
	case 1:
		p = append(p, 65536)
	case 2:
		p = append(p, -1)
	}
	return p
}

// turns turns a table and a model at random, and holds their answers against each other.
func turns(t *testing.T, r *rand.Rand, x *watch.Table, m *model, now int64) (e api.Errno, told int) {
	t.Helper()
	server, token := someWho(r)
	var got, want int
	switch r.Intn(14) {
	case 0, 1, 2, 3:
		w := Watch{Server: server, Token: token, Path: somePath(r), Cond: someCond(r), Val: someVal(r), At: now - int64(r.Intn(20)), Seq: r.Intn(9)}
		if r.Intn(20) == 0 {
			w.Token, w.At = []byte("123456789")[r.Intn(2):], int64(r.Uint64())
		}
		e = x.Add(w)
		got, want = int(e), int(m.add(w))
	case 4:
		c := someCond(r)
		k := key{server, string(token)}
		old, ok := m.all[k]
		if ok {
			old.Cond = c
			m.all[k] = old
		}
		if x.Turn(server, token, c) != ok {
			t.Fatalf("Turn: %t", !ok)
		}
	case 5:
		n := m.drop(func(k key, _ string) bool { return k == key{server, string(token)} })
		if x.Drop(server, token) != (n == 1) {
			t.Fatalf("Drop: %d", n)
		}
	case 6:
		p := somePath(r)
		begins := words(p)
		got, want = x.DropPath(p), m.drop(func(_ key, p string) bool { return len(p) >= len(begins) && p[:len(begins)] == begins })
	case 7:
		if r.Intn(3) == 0 {
			got, want = x.DropServer(server), m.drop(func(k key, _ string) bool { return k.server == server })
		}
	default:
		var vals []Val
		for range r.Intn(9) {
			vals = append(vals, someVal(r))
		}
		due := m.due(vals, now)
		if got := x.Due(vals, now); !slices.EqualFunc(got, due, same) {
			t.Fatalf("Due of %v at %d: %v, want %v", vals, now, got, due)
		}
		told = len(due)
	}
	if got != want {
		t.Fatalf("%d, want %d", got, want)
	}
	if all := x.All(); !slices.EqualFunc(all, m.watches(), same) || x.Len() != len(m.all) {
		t.Fatalf("All: %v, want %v", all, m.watches())
	}
	return e, told
}

// P21.1, P2: whatever calls come, in whatever order, at times that go on and back.
func TestAgainstAModel(t *testing.T) {
	r := rand.New(rand.NewSource(24))
	met, told := map[api.Errno]int{}, 0
	for range 2000 {
		x, m := watch.New(), &model{all: map[key]entry{}}
		now := some(r, 0, 0, 1000, maxTicks-50, maxTicks-5)
		for range 80 {
			now += int64(r.Intn(4))
			at := now
			switch r.Intn(40) {
			case 0:
				at = int64(r.Uint64())
			case 1:
				at -= 30
			}
			e, n := turns(t, r, x, m, at)
			met[e]++
			told += n
		}
	}
	if met[api.ErrArg] < 1000 || met[api.ErrFull] < 1000 || told < 20000 {
		t.Errorf("%v, %d were told", met, told)
	}
}

// P21.2, P21.3: however the values go, two times at which a watch is told are no closer than PMin and no wider than PMax, and the numbers are fresher each.
func TestHowFarApart(t *testing.T) {
	r := rand.New(rand.NewSource(25))
	for range 400 {
		c := someCond(r)
		c.HasMin, c.HasMax = r.Intn(4) > 0, r.Intn(4) > 0
		c.PMin, c.PMax = int64(r.Intn(12)), int64(r.Intn(15))
		x := one(t, c, someVal(r), 0)
		last := x.All()[0]
		v := someVal(r)
		for now := int64(0); now < 120; now++ {
			// Turned to what it is, a condition holds on; more than one call at a time tells no more.
			x.Turn(1, []byte("a"), c)
			if r.Intn(3) == 0 {
				v = someVal(r)
			}
			due := append(x.Due([]Val{v}, now), x.Due([]Val{someVal(r)}, now)...)
			if len(due) > 1 {
				t.Fatalf("%v: told twice at %d", c, now)
			}
			if now-last.At > c.PMax && c.HasMax && c.PMax > 0 && (!c.HasMin || c.PMax >= c.PMin) {
				t.Fatalf("%v: told at %d, and not up to %d", c, last.At, now)
			}
			for _, w := range due {
				if w.At != now || now == last.At || c.HasMin && now-last.At < c.PMin || w.Seq != last.Seq+1 || !watch.Fresh(last.Seq, w.Seq, last.At, w.At) {
					t.Fatalf("%v: told %v behind %v", c, w, last)
				}
				last = w
			}
		}
	}
}
