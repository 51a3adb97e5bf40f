package value_test

import (
	"bytes"
	"math"
	"strings"
	"testing"

	"outpost/api"
	"outpost/value"
)

// Types that aren't the document's: each of another make, and with a Kind that may say anything.
type (
	number  int64
	truth   bool
	words   string
	row     []byte
	pairs   struct{ list []int }
	around  struct{ value.Value }
	nobody  struct{}
	flakes  map[string]int
	forever struct{}
)

func (number) Kind() int  { return api.KInt }
func (truth) Kind() int   { return api.KBool }
func (words) Kind() int   { return api.KText }
func (row) Kind() int     { return api.KBytes }
func (pairs) Kind() int   { return 0 }
func (nobody) Kind() int  { panic("nobody asks for this") }
func (flakes) Kind() int  { return api.KLink }
func (forever) Kind() int { select {} }

// foreign are values of types that aren't the document's.
func foreign() []value.Value {
	n, b := value.Int(5), value.Bytes("b")
	return []value.Value{number(5), truth(true), words("x"), row("x"), row(nil), pairs{[]int{1}}, around{value.Int(5)}, around{row("x")}, around{}, nobody{}, flakes{"a": 1}, forever{}, &n, &b, (*value.Int)(nil), (*value.Link)(nil), &nobody{}}
}

// sameVal holds values against each other: a list that is nil and one that is empty are the same.
func sameVal(a, b api.Val) bool {
	return a.Kind == b.Kind && a.N == b.N && a.S == b.S && bytes.Equal(a.B, b.B) && a.Obj == b.Obj && a.Inst == b.Inst
}

// is holds two values against each other by their types, without the package's own Same.
func is(a, b value.Value) bool {
	if x, ok := a.(value.Bytes); ok {
		y, ok := b.(value.Bytes)
		return ok && bytes.Equal(x, y)
	}
	if _, ok := b.(value.Bytes); ok {
		return false
	}
	return a == b
}

// unwires holds what Unwire is to answer.
func unwires(t *testing.T, kind int, b string, want value.Value, wantE api.Errno) {
	t.Helper()
	if v, e := value.Unwire(kind, []byte(b)); !is(v, want) || e != wantE {
		t.Errorf("Unwire of kind %d, %.40x (%d bytes): %v, %d, want %v, %d", kind, b, len(b), v, e, want, wantE)
	}
}

// P14.1, P14.2: the document's own examples.
func TestExamples(t *testing.T) {
	for n, want := range map[value.Int]string{127: "\x7f", 128: "\x00\x80", -129: "\xff\x7f"} {
		if got := value.Wire(n); string(got) != want {
			t.Errorf("Wire of %d: %x", n, got)
		}
		unwires(t, api.KInt, want, n, api.OK)
	}
	if !panics(value.Text("b")) {
		t.Error("MustBytes of a Text doesn't panic")
	}
}

// P14.1: each type's kind.
func TestKind(t *testing.T) {
	for want, vs := range map[int][]value.Value{api.KInt: {value.Int(0), value.Int(-7)}, api.KBool: {value.Bool(false), value.Bool(true)}, api.KText: {value.Text(""), value.Text("x")}, api.KBytes: {value.Bytes(nil), value.Bytes("x")}, api.KTime: {value.Time(0), value.Time(9)}, api.KLink: {value.Link{}, value.Link{Obj: 1, Inst: 2}}} {
		for _, v := range vs {
			if got := v.Kind(); got != want {
				t.Errorf("Kind of %T: %d, want %d", v, got, want)
			}
		}
	}
}

// pair is a value and its api.Val.
type pair struct {
	v   value.Value
	val api.Val
}

// right are values that are right: the first and the last ones of each kind, too.
func right() []pair {
	var all []pair
	for _, n := range []int64{0, 1, -1, 127, 128, -128, -129, 1 << 40, math.MaxInt64, math.MinInt64} {
		all = append(all, pair{value.Int(n), api.Val{Kind: api.KInt, N: n}}, pair{value.Time(n), api.Val{Kind: api.KTime, N: n}})
	}
	for _, s := range []string{"", "a", " ~", "é", "\u0080", "\U0010ffff", strings.Repeat("a", 200), strings.Repeat("é", 100)} {
		all = append(all, pair{value.Text(s), api.Val{Kind: api.KText, S: s}})
	}
	for _, b := range []string{"", "\x00", "\xff\x00", "text", strings.Repeat("\xff", 200)} {
		all = append(all, pair{value.Bytes(b), api.Val{Kind: api.KBytes, B: []byte(b)}})
	}
	for _, l := range []value.Link{{}, {Obj: 1}, {Inst: 1}, {Obj: 5, Inst: 258}, {Obj: 65535, Inst: 65535}} {
		all = append(all, pair{l, api.Val{Kind: api.KLink, Obj: l.Obj, Inst: l.Inst}})
	}
	return append(all, pair{value.Bool(false), api.Val{Kind: api.KBool}}, pair{value.Bool(true), api.Val{Kind: api.KBool, N: 1}}, pair{value.Bytes(nil), api.Val{Kind: api.KBytes}})
}

// P14.1, P14.2: a value's api.Val is its value again.
func TestOfAndVal(t *testing.T) {
	for _, p := range right() {
		if got := value.Val(p.v); !sameVal(got, p.val) {
			t.Errorf("Val of %T %v: %v, want %v", p.v, p.v, got, p.val)
		}
		if got, e := value.Of(p.val); !is(got, p.v) || e != api.OK {
			t.Errorf("Of %v: %T %v, %d", p.val, got, got, e)
		}
		if got, e := value.Of(value.Val(p.v)); !value.Same(got, p.v) || e != api.OK {
			t.Errorf("%T %v: its api.Val's value is %v, %d", p.v, p.v, got, e)
		}
	}
}

// P14.1: nil, and a value of another type, have the zero api.Val, no number, no text, no bytes, and fit nowhere.
func TestOtherTypes(t *testing.T) {
	for i, v := range append(foreign(), nil) {
		if got := value.Val(v); !sameVal(got, api.Val{}) {
			t.Errorf("Val of %T: %v", v, got)
		}
		if n, ok := value.Number(v); n != 0 || ok {
			t.Errorf("Number of %T: %d, %t", v, n, ok)
		}
		if s, ok := value.Words(v); s != "" || ok {
			t.Errorf("Words of %T: %q, %t", v, s, ok)
		}
		if got := value.Wire(v); len(got) != 0 {
			t.Errorf("Wire of %T: %x", v, got)
		}
		if !panics(v) {
			t.Errorf("MustBytes of %T doesn't panic", v)
		}
		for kind := -1; kind < 8; kind++ {
			if e := value.Fits(api.Rule{Kind: kind, Least: math.MinInt64, Most: math.MaxInt64}, v); e != api.ErrKind {
				t.Errorf("case %d, %T fits kind %d: %d", i, v, kind, e)
			}
		}
	}
}

// P14.1: what has no value: ErrKind ahead of ErrArg.
func TestWrongVals(t *testing.T) {
	for _, kind := range []int{0, 7, -1, math.MaxInt, math.MinInt} {
		for _, v := range []api.Val{{}, {N: 1}, {S: "\xff", B: make([]byte, 300), Obj: -1}} {
			v.Kind = kind
			if got, e := value.Of(v); got != nil || e != api.ErrKind {
				t.Errorf("Of %v: %v, %d", v, got, e)
			}
		}
	}
	for _, v := range []api.Val{{Kind: api.KBool, N: 2}, {Kind: api.KBool, N: -1}, {Kind: api.KInt, S: "x"}, {Kind: api.KTime, B: []byte{0}}, {Kind: api.KText, S: "\n"}, {Kind: api.KText, S: "\xff"}, {Kind: api.KText, S: strings.Repeat("a", 201)}, {Kind: api.KText, N: 1}, {Kind: api.KBytes, B: make([]byte, 201)}, {Kind: api.KBytes, Obj: 1}, {Kind: api.KLink, Obj: -1}, {Kind: api.KLink, Inst: 65536}, {Kind: api.KLink, N: 1}} {
		if got, e := value.Of(v); got != nil || e != api.ErrArg {
			t.Errorf("Of %v: %v, %d", v, got, e)
		}
	}
}

// P14.1: numbers of an Int, a Time and a Bool, and texts of a Text alone.
func TestNumberAndWords(t *testing.T) {
	for _, p := range append(right(), pair{value.Text("a\n\xff"), api.Val{Kind: api.KText, S: "a\n\xff"}}) {
		kind := p.v.Kind()
		isNumber := kind == api.KInt || kind == api.KTime || kind == api.KBool
		if n, ok := value.Number(p.v); n != p.val.N || ok != isNumber {
			t.Errorf("Number of %T %v: %d, %t", p.v, p.v, n, ok)
		}
		if s, ok := value.Words(p.v); s != p.val.S || ok != (kind == api.KText) {
			t.Errorf("Words of %T %v: %q, %t", p.v, p.v, s, ok)
		}
	}
}

// panics tells whether MustBytes of a value panics.
func panics(v value.Value) (is bool) {
	defer func() { is = recover() != nil }()
	value.MustBytes(v)
	return false
}

// P14.1: MustBytes panics of all that isn't a Bytes.
func TestMustBytes(t *testing.T) {
	for _, p := range append(right(), pair{v: value.Bytes(strings.Repeat("a", 1000))}) {
		want, ok := p.v.(value.Bytes)
		if panics(p.v) == ok {
			t.Errorf("MustBytes of %T: panics: %t", p.v, ok)
		}
		if ok && !bytes.Equal(value.MustBytes(p.v), want) {
			t.Errorf("MustBytes of %x: %x", want, value.MustBytes(p.v))
		}
	}
}

// P14.1, P14.2: numbers have as few bytes as may be; in more they are read as the same.
func TestNumbersAsBytes(t *testing.T) {
	for n, want := range map[int64]string{
		0: "\x00", 1: "\x01", 127: "\x7f", -1: "\xff", -128: "\x80",
		128: "\x00\x80", 255: "\x00\xff", 256: "\x01\x00", 32767: "\x7f\xff", -129: "\xff\x7f", -256: "\xff\x00", -32768: "\x80\x00",
		32768: "\x00\x00\x80\x00", 65536: "\x00\x01\x00\x00", 1 << 24: "\x01\x00\x00\x00", math.MaxInt32: "\x7f\xff\xff\xff", -32769: "\xff\xff\x7f\xff", math.MinInt32: "\x80\x00\x00\x00",
		math.MaxInt32 + 1: "\x00\x00\x00\x00\x80\x00\x00\x00", 1 << 40: "\x00\x00\x01\x00\x00\x00\x00\x00", math.MaxInt64: "\x7f\xff\xff\xff\xff\xff\xff\xff", math.MinInt32 - 1: "\xff\xff\xff\xff\x7f\xff\xff\xff", math.MinInt64: "\x80\x00\x00\x00\x00\x00\x00\x00",
	} {
		for _, v := range []value.Value{value.Int(n), value.Time(n)} {
			if got := value.Wire(v); string(got) != want {
				t.Errorf("Wire of %T %d: %x, want %x", v, n, got, want)
			}
			sign := want[:1]
			if n < 0 {
				sign = "\xff"
			} else {
				sign = "\x00"
			}
			for _, size := range []int{1, 2, 4, 8} {
				if size >= len(want) {
					unwires(t, v.Kind(), strings.Repeat(sign, size-len(want))+want, v, api.OK)
				}
			}
		}
	}
}

// P14.1, P14.2: the other kinds' values as bytes.
func TestOthersAsBytes(t *testing.T) {
	for _, p := range right() {
		want := p.val.S + string(p.val.B)
		switch p.v.Kind() {
		case api.KInt, api.KTime:
			continue
		case api.KBool:
			want = string([]byte{byte(p.val.N)})
		case api.KLink:
			want = string([]byte{byte(p.val.Obj / 256), byte(p.val.Obj % 256), byte(p.val.Inst / 256), byte(p.val.Inst % 256)})
		}
		if got := value.Wire(p.v); string(got) != want {
			t.Errorf("Wire of %T %v: %x, want %x", p.v, p.v, got, want)
		}
		unwires(t, p.v.Kind(), want, p.v, api.OK)
	}
	// Values that aren't right are themselves, too.
	for want, v := range map[string]value.Value{"a\n\xff": value.Text("a\n\xff"), strings.Repeat("a", 1000): value.Text(strings.Repeat("a", 1000)), strings.Repeat("b", 1000): value.Bytes(strings.Repeat("b", 1000))} {
		if got := value.Wire(v); string(got) != want {
			t.Errorf("Wire of %T: %x", v, got)
		}
	}
}

// P14.1: bytes that aren't a value's.
func TestWrongBytes(t *testing.T) {
	for size := range 20 {
		for _, fill := range []string{"\x00", "\x01", "1", "\xff"} {
			b := strings.Repeat(fill, size)
			if size != 1 && size != 2 && size != 4 && size != 8 {
				unwires(t, api.KInt, b, nil, api.ErrForm)
				unwires(t, api.KTime, b, nil, api.ErrForm)
			}
			if size != 1 || fill != "\x00" && fill != "\x01" {
				unwires(t, api.KBool, b, nil, api.ErrForm)
			}
			if size != 4 {
				unwires(t, api.KLink, b, nil, api.ErrForm)
			}
			for _, kind := range []int{0, 7, -1, math.MaxInt, math.MinInt} {
				unwires(t, kind, b, nil, api.ErrKind)
			}
		}
	}
	for _, s := range []string{"\n", "a\x00", "\x7f", "\xff", "\xc3", "a\xed\xa0\x80", strings.Repeat("a", 199) + "\n", strings.Repeat("\xff", 200), strings.Repeat("a", 199) + "\xc3"} {
		unwires(t, api.KText, s, nil, api.ErrForm)
		unwires(t, api.KBytes, s, value.Bytes(s), api.OK)
	}
	for _, s := range []string{strings.Repeat("a", 201), strings.Repeat("\xff", 201), strings.Repeat("é", 101), strings.Repeat("\n", 1<<20)} {
		unwires(t, api.KText, s, nil, api.ErrLong)
		unwires(t, api.KBytes, s, nil, api.ErrLong)
		unwires(t, 0, s, nil, api.ErrKind)
		unwires(t, api.KInt, s, nil, api.ErrForm)
		unwires(t, api.KLink, s, nil, api.ErrForm)
	}
}

// P14.1: values are the same only if they are of one type; nil is the same as nil alone.
func TestSame(t *testing.T) {
	all := []value.Value{nil}
	for _, p := range right() {
		all = append(all, p.v)
	}
	all = append(all, value.Text("1"), value.Bytes("1"), value.Text("\x01"), value.Bytes("\x01"), value.Int(49), value.Time(49), value.Link{Obj: -1}, value.Link{Inst: -1}, value.Text("\xff"))
	for i, a := range all {
		for k, b := range all {
			// The only two that are told apart by nothing are a Bytes of nil and an empty one.
			want := i == k || a != nil && b != nil && a.Kind() == api.KBytes && b.Kind() == api.KBytes && len(value.Wire(a))+len(value.Wire(b)) == 0
			if got := value.Same(a, b); got != want {
				t.Errorf("Same of %T %v, %T %v: %t", a, a, b, b, got)
			}
		}
	}
	if !value.Same(value.Bytes("abc"), value.Bytes([]byte{'a', 'b', 'c'})) || value.Same(value.Bytes("abc"), value.Bytes("abcd")) || value.Same(value.Bytes("abc"), value.Bytes("abd")) {
		t.Error("Same of Bytes")
	}
}

// P14.1: a value of another type doesn't panic, whatever it is, and is the same as no value of the document's types.
func TestSameOfOtherTypes(t *testing.T) {
	for i, a := range foreign() {
		for k, b := range foreign() {
			if i != k && value.Same(a, b) {
				t.Errorf("Same of %T %v, %T %v", a, a, b, b)
			}
			value.Same(a, a)
		}
		for _, b := range append(right(), pair{}) {
			if value.Same(a, b.v) || value.Same(b.v, a) {
				t.Errorf("Same of %T %v, %T %v", a, a, b.v, b.v)
			}
		}
	}
	if !value.Same(number(5), number(5)) || value.Same(number(5), number(6)) || !value.Same(nobody{}, nobody{}) || value.Same((*value.Int)(nil), nil) {
		t.Error("Same of types that can be compared")
	}
}

// P14.1: a value fits a rule of its kind, within its bounds.
func TestFits(t *testing.T) {
	fits := func(kind int, least, most int64, v value.Value, want api.Errno) {
		t.Helper()
		r := api.Rule{ID: 7, Kind: kind, Least: least, Most: most, Must: true}
		if e := value.Fits(r, v); e != want {
			t.Errorf("Fits of %v, %T %v: %d, want %d", r, v, v, e, want)
		}
	}
	for n := int64(-7); n < 8; n++ {
		want := api.OK
		if n < -3 || n > 4 {
			want = api.ErrArg
		}
		fits(api.KInt, -3, 4, value.Int(n), want)
		fits(api.KTime, -3, 4, value.Time(n), want)
	}
	for n := range 9 {
		want := api.OK
		if n < 2 || n > 5 {
			want = api.ErrArg
		}
		fits(api.KText, 2, 5, value.Text(strings.Repeat("a", n)), want)
		fits(api.KBytes, 2, 5, value.Bytes(strings.Repeat("a", n)), want)
	}
	fits(api.KText, 0, 3, value.Text("éé"), api.ErrArg) // its bytes count
	fits(api.KText, 4, 4, value.Text("éé"), api.OK)
	fits(api.KBytes, 0, 0, value.Bytes(nil), api.OK)
	fits(api.KBytes, 1, 9, value.Bytes(nil), api.ErrArg)
	fits(api.KInt, math.MinInt64, math.MaxInt64, value.Int(math.MinInt64), api.OK)
	fits(api.KInt, math.MinInt64, math.MaxInt64, value.Int(math.MaxInt64), api.OK)
	fits(api.KInt, 4, -3, value.Int(0), api.ErrArg) // no number is within
	for _, v := range []value.Value{value.Bool(false), value.Bool(true), value.Link{}, value.Link{Obj: 5, Inst: 65535}, value.Link{Obj: -1}} {
		fits(v.Kind(), 5, 2, v, api.OK) // the bounds aren't theirs
		fits(v.Kind(), 0, 0, v, api.OK)
	}
	for _, p := range right() {
		for kind := -2; kind < 9; kind++ {
			if kind != p.v.Kind() {
				fits(kind, 1, 0, p.v, api.ErrKind) // ahead of ErrArg
				fits(kind, math.MinInt64, math.MaxInt64, p.v, api.ErrKind)
			}
		}
	}
}
