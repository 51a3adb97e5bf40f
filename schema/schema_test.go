package schema_test

import (
	"math"
	"slices"
	"strconv"
	"strings"
	"testing"

	"outpost/api"
	"outpost/schema"
	"outpost/value"
)

// Short names of what is held here.
type (
	Obj = api.Obj
	Val = api.Val
)

// told is the document's own text of the objects.
const told = `
0 Security     2 instances: 0 text 1..100 must; 1 truth must; 10 number 1..65534 must (none may be read, written or executed)
1 Server       2 instances: 0 number 1..65534 read must; 1 number 1..86400 read write must; 2 number 0..65535 read write; 3 number 0..65535 read write; 6 truth read write must; 7 text 1..3 read write must; 8 executed
2 Access       8 instances, made: 0 number 0..65534 read must; 1 number 0..65535 read must; 2 bytes 0..64 read write; 3 number 0..65535 read write must
3 Device       1 instance: 0 text 0..40 read; 1 text 0..40 read; 3 text 0..40 read; 4 executed; 9 number 0..100 read; 11 number 0..32 read must; 13 time 0..2^40 read write; 14 text 0..6 read write
5 Firmware     1 instance: 0 bytes 0..200 write; 1 text 0..100 read write; 2 executed; 3 number 0..3 read must; 5 number 0..9 read must; 6 text 0..40 read; 7 text 0..40 read; 9 number 0..2 read must
`

// kinds are the document's words for a value's kinds.
var kinds = map[string]int{"number": 1, "truth": 2, "text": 3, "bytes": 4, "time": 5}

// number is the number of a word.
func number(t *testing.T, word string) int64 {
	t.Helper()
	if word == "2^40" {
		return 1099511627776
	}
	n, err := strconv.ParseInt(word, 10, 64)
	if err != nil {
		t.Fatal(err)
	}
	return n
}

// ruleOf is the rule that words tell.
func ruleOf(t *testing.T, words []string) api.Rule {
	t.Helper()
	r := api.Rule{ID: int(number(t, words[0]))}
	for _, word := range words[1:] {
		least, most, isRange := strings.Cut(word, "..")
		switch {
		case isRange:
			r.Least, r.Most = number(t, least), number(t, most)
		case word == "read":
			r.Read = true
		case word == "write":
			r.Write = true
		case word == "must":
			r.Must = true
		case word == "executed":
			r.Exec = true
		case kinds[word] > 0:
			r.Kind = kinds[word]
		default:
			t.Fatalf("%q is no word of a rule", word)
		}
	}
	return r
}

// objects are the forms that the document's text tells.
func objects(t *testing.T) []Obj {
	t.Helper()
	var objs []Obj
	for _, line := range strings.Split(strings.TrimSpace(told), "\n") {
		head, rules, _ := strings.Cut(line, ": ")
		words := strings.Fields(head)
		o := Obj{ID: int(number(t, words[0])), Insts: int(number(t, words[2])), Make: words[len(words)-1] == "made"}
		rules, _, _ = strings.Cut(rules, " (")
		for _, rule := range strings.Split(rules, "; ") {
			o.Rules = append(o.Rules, ruleOf(t, strings.Fields(rule)))
		}
		objs = append(objs, o)
	}
	return objs
}

// same holds two forms against each other.
func same(a, b Obj) bool {
	return a.ID == b.ID && a.Insts == b.Insts && a.Make == b.Make && slices.Equal(a.Rules, b.Rules)
}

// P18.1: the document's own example, and all objects as it tells them.
func TestAll(t *testing.T) {
	if r, ok := schema.Rule(schema.All(), 5, 3); !ok || r != (api.Rule{ID: 3, Kind: api.KInt, Most: 3, Read: true, Must: true}) {
		t.Errorf("Rule of 5, 3: %+v, %t", r, ok)
	}
	all, want := schema.All(), objects(t)
	if len(all) != 5 || len(want) != 5 {
		t.Fatalf("%d objects, want %d", len(all), len(want))
	}
	for i := range want {
		if !same(all[i], want[i]) {
			t.Errorf("%+v\nwant %+v", all[i], want[i])
		}
	}
}

// P18.2: all of these are right, and what is blank fits.
func TestAllAreRight(t *testing.T) {
	for _, o := range schema.All() {
		if !schema.Right(o) {
			t.Errorf("object %d isn't right", o.ID)
		}
		for _, r := range o.Rules {
			fits(t, r)
		}
	}
}

// fits holds that a right form's rule has a blank that fits, but one of what is executed.
func fits(t *testing.T, r api.Rule) {
	t.Helper()
	val := schema.Blank(r)
	if r.Exec {
		if !sameVal(val, Val{}) {
			t.Errorf("Blank of %+v: %+v", r, val)
		}
		return
	}
	v, e := value.Of(val)
	if f := value.Fits(r, v); e != api.OK || f != api.OK {
		t.Errorf("Blank of %+v: %+v, which doesn't fit: %d, %d", r, val, e, f)
	}
}

// sameVal holds values against each other: a list that is nil and one that is empty are the same.
func sameVal(a, b Val) bool {
	return a.Kind == b.Kind && a.N == b.N && a.S == b.S && string(a.B) == string(b.B) && a.Obj == b.Obj && a.Inst == b.Inst
}

// several are forms that aren't rising and of which two have an ID, and one has two rules of one ID: each thing of its own is told by Insts or Most.
func several() []Obj {
	return []Obj{
		{ID: 7, Insts: 1, Rules: []api.Rule{{ID: 4, Kind: 1, Most: 1}, {ID: 2, Kind: 1, Most: 2}, {ID: 4, Kind: 1, Most: 3}}},
		{ID: 3, Insts: 2, Make: true, Rules: []api.Rule{{ID: 65535, Kind: 1, Most: 4}}},
		{ID: 7, Insts: 3, Rules: []api.Rule{{ID: 5, Kind: 1, Most: 5}}},
		{ID: -1, Insts: 99, Rules: []api.Rule{{ID: -2, Kind: 9, Most: -6}}},
		{ID: 8, Insts: 5},
		{ID: math.MaxInt, Rules: []api.Rule{{ID: math.MinInt, Most: 7}}},
	}
}

// P18.1: the first form of an ID, be it right or not.
func TestFind(t *testing.T) {
	for id, want := range map[int]int{7: 0, 3: 1, -1: 3, 8: 4, math.MaxInt: 5} {
		if got, ok := schema.Find(several(), id); !ok || !same(got, several()[want]) {
			t.Errorf("Find of %d: %+v, %t", id, got, ok)
		}
	}
	for _, id := range []int{0, 4, 6, 9, -2, 65535, math.MinInt} {
		if got, ok := schema.Find(several(), id); ok || !same(got, Obj{}) {
			t.Errorf("Find of %d: %+v, %t", id, got, ok)
		}
	}
	for _, objs := range [][]Obj{nil, {}} {
		if got, ok := schema.Find(objs, 0); ok || !same(got, Obj{}) {
			t.Errorf("Find in none: %+v, %t", got, ok)
		}
	}
	for _, o := range objects(t) {
		if got, ok := schema.Find(schema.All(), o.ID); !ok || !same(got, o) {
			t.Errorf("Find of object %d: %+v, %t", o.ID, got, ok)
		}
	}
}

// P18.1: the first rule of an ID, in the first form of one alone.
func TestRule(t *testing.T) {
	for at, most := range map[[2]int]int64{{7, 4}: 1, {7, 2}: 2, {3, 65535}: 4, {-1, -2}: -6, {math.MaxInt, math.MinInt}: 7} {
		if r, ok := schema.Rule(several(), at[0], at[1]); !ok || r.ID != at[1] || r.Most != most {
			t.Errorf("Rule of %d: %+v, %t", at, r, ok)
		}
	}
	for _, at := range [][2]int{{7, 5}, {7, 0}, {7, 3}, {3, 4}, {8, 0}, {8, 4}, {0, 0}, {0, 4}, {4, 4}, {-1, 0}, {-2, -2}, {7, -4}, {65535, 3}} {
		if r, ok := schema.Rule(several(), at[0], at[1]); ok || r != (api.Rule{}) {
			t.Errorf("Rule of %d: %+v, %t", at, r, ok)
		}
	}
	if r, ok := schema.Rule(nil, 0, 0); ok || r != (api.Rule{}) {
		t.Errorf("Rule in none: %+v, %t", r, ok)
	}
	for _, o := range objects(t) {
		for _, want := range o.Rules {
			if r, ok := schema.Rule(schema.All(), o.ID, want.ID); !ok || r != want {
				t.Errorf("Rule of %d, %d: %+v, %t", o.ID, want.ID, r, ok)
			}
		}
	}
}

// rising are so many rules of numbers, the first one of an ID.
func rising(first, n int) []api.Rule {
	var rules []api.Rule
	for i := range n {
		rules = append(rules, api.Rule{ID: first + i, Kind: api.KInt})
	}
	return rules
}

// P18.1: forms that are right, and that aren't, but for their single rules.
func TestRight(t *testing.T) {
	for i, o := range []Obj{
		{Insts: 1}, {ID: 65534, Insts: 8}, {ID: 1, Insts: 2, Make: true}, {Insts: 1, Rules: rising(0, 1)}, {Insts: 1, Rules: rising(65535, 1)}, {Insts: 1, Rules: []api.Rule{}},
		{Insts: 1, Rules: rising(0, 32)}, {Insts: 8, Make: true, Rules: rising(65504, 32)}, {Insts: 1, Rules: append(rising(0, 2), rising(65534, 2)...)},
	} {
		if !schema.Right(o) {
			t.Errorf("case %d, %+v, isn't right", i, o)
		}
	}
	for i, o := range []Obj{
		{}, {Insts: 0}, {Insts: -1}, {Insts: 9}, {Insts: math.MaxInt}, {Insts: math.MinInt}, {Insts: 1<<32 + 1},
		{ID: -1, Insts: 1}, {ID: 65535, Insts: 1}, {ID: 65536, Insts: 1}, {ID: math.MaxInt, Insts: 1}, {ID: math.MinInt, Insts: 1}, {ID: 1 << 32, Insts: 1},
		{Insts: 1, Rules: rising(0, 33)}, {Insts: 1, Rules: rising(0, 1<<16)}, {Insts: 1, Rules: rising(-1, 1)}, {Insts: 1, Rules: rising(-1, 3)}, {Insts: 1, Rules: rising(65536, 1)}, {Insts: 1, Rules: rising(65535, 2)},
		{Insts: 1, Rules: rising(math.MinInt, 1)}, {Insts: 1, Rules: rising(math.MaxInt, 1)},
		{Insts: 1, Rules: append(rising(3, 1), rising(3, 1)...)}, {Insts: 1, Rules: append(rising(3, 1), rising(2, 1)...)}, {Insts: 1, Rules: append(rising(0, 5), rising(0, 1)...)}, {Insts: 1, Rules: append(rising(0, 5), rising(4, 5)...)},
	} {
		if schema.Right(o) {
			t.Errorf("case %d, of ID %d, %d instances, %d rules, is right", i, o.ID, o.Insts, len(o.Rules))
		}
	}
}

// P18.1: one wrong rule makes a form wrong, wherever it stands.
func TestOneWrongRule(t *testing.T) {
	for n := range 32 {
		o := Obj{Insts: 1, Rules: rising(0, 32)}
		if !schema.Right(o) {
			t.Fatal("32 rules")
		}
		o.Rules[n].Kind = 7
		if schema.Right(o) {
			t.Errorf("right, though rule %d isn't", n)
		}
	}
}

// P18.1, P18.2: rules of all modes, kinds and edges against the document's words, one by one; the blank of each right one fits it.
func TestRulesAgainstTheWords(t *testing.T) {
	edges := []int64{math.MinInt64, -1, 0, 1, 2, 199, 200, 201, 1 << 40, math.MaxInt64}
	right := map[string]int{}
	for bits := range 16 {
		for _, kind := range []int{math.MinInt, -1, 0, 1, 2, 3, 4, 5, 6, 7, 1<<32 + 1, math.MaxInt} {
			for _, least := range edges {
				for _, most := range edges {
					r := api.Rule{ID: 9, Kind: kind, Least: least, Most: most, Read: bits&1 > 0, Write: bits&2 > 0, Must: bits&4 > 0, Exec: bits&8 > 0}
					want := rightByWords(r)
					if got := schema.Right(Obj{Insts: 1, Rules: []api.Rule{r}}); got != want {
						t.Errorf("Right of a form of %+v: %t", r, got)
					}
					if want {
						right[strconv.Itoa(kind)+strconv.FormatBool(r.Exec)]++
						fits(t, r)
					}
				}
			}
		}
	}
	// Of ten edges 55 pairs aren't falling, 15 of them from 0 to 200.
	for what, n := range map[string]int{"0true": 1, "1false": 440, "2false": 440, "3false": 120, "4false": 120, "5false": 440, "6false": 440} {
		if right[what] != n {
			t.Errorf("%d right rules of %s, want %d", right[what], what, n)
		}
		delete(right, what)
	}
	if len(right) > 0 {
		t.Errorf("right rules of others: %v", right)
	}
}

// rightByWords tells whether a rule is right, but for its ID.
func rightByWords(r api.Rule) bool {
	nothingElse := r.Kind == 0 && !r.Read && !r.Write && !r.Must && r.Least == 0 && r.Most == 0
	isKind := strings.Contains(" 1 2 3 4 5 6 ", " "+strconv.Itoa(r.Kind)+" ")
	hasSize := r.Kind == 3 || r.Kind == 4
	if r.Exec {
		return nothingElse
	}
	return isKind && !(r.Least > r.Most) && !(hasSize && (r.Least < 0 || r.Most < 0 || r.Most > 200))
}

// P18.1: what stands for a resource that isn't told, of rules that aren't right too.
func TestBlank(t *testing.T) {
	for _, n := range []int64{math.MinInt64, -1 << 40, -1, 0, 1, 2, 3, 199, 200, 201, 1 << 32, 1<<32 + 1, 1 << 40, math.MaxInt64} {
		size := int(n)
		if n < 0 {
			size = 0
		}
		if n > 200 {
			size = 200
		}
		for kind, want := range map[int]Val{
			api.KInt: {Kind: 1, N: n}, api.KTime: {Kind: 5, N: n}, api.KBool: {Kind: 2}, api.KLink: {Kind: 6},
			api.KText: {Kind: 3, S: strings.Repeat("x", size)}, api.KBytes: {Kind: 4, B: make([]byte, size)},
			0: {}, -1: {}, 7: {}, 99: {}, math.MaxInt: {}, math.MinInt: {}, 1<<32 + 1: {},
		} {
			for _, r := range []api.Rule{{Kind: kind, Least: n}, {ID: 5, Kind: kind, Least: n, Most: n, Must: true, Read: true}, {ID: -5, Kind: kind, Least: n, Most: 3, Exec: true, Write: true}} {
				if got := schema.Blank(r); !sameVal(got, want) {
					t.Errorf("Blank of %+v: %+v", r, got)
				}
			}
		}
	}
}
