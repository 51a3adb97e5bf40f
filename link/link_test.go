package link_test

import (
	"fmt"
	"math"
	"slices"
	"strings"
	"testing"

	"outpost/api"
	"outpost/link"
)

// Short names of what is held here.
type (
	Link = api.Link
	Pair = api.Pair
)

// to is a link to a path, with attributes.
func to(p []int, attrs ...Pair) Link { return Link{Path: p, Attrs: attrs} }

// pair is an attribute with a value.
func pair(name, val string) Pair { return Pair{Name: name, Val: val} }

// bare is an attribute without one.
func bare(name string) Pair { return Pair{Name: name, Bare: true} }

// same holds links against each other, without the package's own Same.
func same(a, b []Link) bool {
	return slices.EqualFunc(a, b, func(x, y Link) bool {
		return slices.Equal(x.Path, y.Path) && slices.Equal(x.Attrs, y.Attrs)
	})
}

// show is links as a text of some signs, for a test's words.
func show(ls []Link) string {
	s := fmt.Sprintf("%d links", len(ls))
	for _, l := range ls[:min(len(ls), 3)] {
		s += fmt.Sprintf(" %v %q", l.Path[:min(len(l.Path), 5)], fmt.Sprint(l.Attrs[:min(len(l.Attrs), 10)]))
	}
	return s[:min(len(s), 300)]
}

// reads holds what Read is to answer.
func reads(t *testing.T, s string, want []Link, wantE api.Errno) {
	t.Helper()
	if ls, e := link.Read(s); !same(ls, want) || e != wantE {
		t.Errorf("Read of %.90q (%d bytes): %s, %d, want %s, %d", s, len(s), show(ls), e, show(want), wantE)
	}
}

// both holds links that are right and their text against each other.
func both(t *testing.T, want string, ls ...Link) {
	t.Helper()
	if !link.Right(ls) {
		t.Errorf("%s aren't right", show(ls))
	}
	if s, e := link.Write(ls); s != want || e != api.OK {
		t.Errorf("Write of %s: %.90q, %d, want %.90q", show(ls), s, e, want)
	}
	reads(t, want, ls, api.OK)
}

// refused holds links that aren't right.
func refused(t *testing.T, ls ...Link) {
	t.Helper()
	if link.Right(ls) {
		t.Errorf("%s are right", show(ls))
	}
	if s, e := link.Write(ls); s != "" || e != api.ErrArg {
		t.Errorf("Write of %s: %.90q, %d", show(ls), s, e)
	}
}

// P17.1, P17.2: the document's own examples, and those of the whole.
func TestExamples(t *testing.T) {
	both(t, "</5/0>;ver=1.0,</>", to([]int{5, 0}, pair("ver", "1.0")), to(nil))
	both(t, "</5/0>;ver=1.0", to([]int{5, 0}, pair("ver", "1.0")))
	both(t, "")
	if s, e := link.Write([]Link{}); s != "" || e != api.OK || !link.Right(nil) {
		t.Errorf("Write of none: %q, %d", s, e)
	}
}

// P17.1, P17.2: paths of up to three numbers, one link behind the other.
func TestPaths(t *testing.T) {
	both(t, "</>", to([]int{}))
	both(t, "</0>", to([]int{0}))
	both(t, "</65535/0/10>", to([]int{65535, 0, 10}))
	both(t, "</1>,</1/0>,</1/0/3>,</1>", to([]int{1}), to([]int{1, 0}), to([]int{1, 0, 3}), to([]int{1}))
	both(t, "</>;a,</>;b=1,</>", to(nil, bare("a")), to(nil, pair("b", "1")), to(nil))
	for _, p := range [][]int{{-1}, {65536}, {1, 2, -1}, {1, 2, 3, 4}, {math.MaxInt}, {math.MinInt}, make([]int, 1<<20)} {
		refused(t, to(p))
		refused(t, to(nil), to(p, bare("a")), to(nil))
	}
	for _, s := range []string{"", "5", "//", "/5/", "/05", "/65536", "/1/2/3/4", "/a", "/-1", " /5", "/5 ", "/+5", "/5/0/3/", strings.Repeat("/1", 1<<20), strings.Repeat("/", 1<<20), "/\xff", "/٣", "</5>"} {
		reads(t, "<"+s+">", nil, api.ErrForm)
		reads(t, "</5>,<"+s+">;a", nil, api.ErrForm)
	}
}

// P17.1, P17.2: names of 1 to 16 letters and digits.
func TestNames(t *testing.T) {
	for _, name := range []string{"a", "z", "0", "9", "ver", "ssid", "m2m", "007", strings.Repeat("n", 15), strings.Repeat("n", 16), "abcdefghijklmnop", "qrstuvwxyz012345"} {
		both(t, "</1>;"+name, to([]int{1}, bare(name)))
		both(t, "</1>;"+name+"=x", to([]int{1}, pair(name, "x")))
		both(t, "</1>;a;"+name+`="";b`, to([]int{1}, bare("a"), pair(name, ""), bare("b")))
	}
	both(t, "</1>;a;a;a=1;a=2", to([]int{1}, bare("a"), bare("a"), pair("a", "1"), pair("a", "2")))
	for _, name := range []string{"", strings.Repeat("n", 17), strings.Repeat("n", 1<<20), "A", "Z", "aB", "a-b", "a.b", "a_b", "a b", " a", "a ", "`", "{", "/", ":", "é", "\xff", "\x00", "a\n", `a"`, "a*"} {
		refused(t, to([]int{1}, bare(name)))
		refused(t, to([]int{1}, pair(name, "x")))
		refused(t, to([]int{1}, bare("a"), pair(name, "x"), bare("b")), to(nil))
		reads(t, "</1>;"+name, nil, api.ErrForm)
		reads(t, "</1>;"+name+"=x", nil, api.ErrForm)
		reads(t, "</1>;"+name+`="x"`, nil, api.ErrForm)
		reads(t, "</1>;a;"+name+";b,</>", nil, api.ErrForm)
	}
	for _, name := range []string{"a=b", "a;b", "a,b", "a=", "a;"} { // as text they are something else, or nothing
		refused(t, to(nil, bare(name)))
		refused(t, to(nil, pair(name, "x")))
	}
}

// P17.1, P17.2: values that are plain stand alone, others between quotes; where they are read, plain ones may stand between quotes, too.
func TestValues(t *testing.T) {
	for _, val := range []string{"a", "z", "0", "9", ".", "-", "1.0", "-7", "...", "---", "a.b-c", strings.Repeat("v", 59), strings.Repeat("v", 60), "abcdefghijklmnopqrstuvwxyz", "0123456789.-"} {
		both(t, "</1>;a="+val, to([]int{1}, pair("a", val)))
		both(t, "</1>;a="+val+";b,</>;c="+val, to([]int{1}, pair("a", val), bare("b")), to(nil, pair("c", val)))
		reads(t, `</1>;a="`+val+`"`, []Link{to([]int{1}, pair("a", val))}, api.OK)
		reads(t, `</1>;a="`+val+`";b="`+val+`",</>`, []Link{to([]int{1}, pair("a", val), pair("b", val)), to(nil)}, api.OK)
	}
	quoted := []string{"", " ", "~", "A", "Z", "_", "a b", "a,b", "a;b", "a=b", "=", "</1>", "a/b", "a+b", "!", "#", "[", "]", "`", "{", "'", "x y;z,w=\u0076", "1.0 ", " 1.0", "a~", strings.Repeat("V", 60), strings.Repeat("v", 59) + " "}
	for _, val := range quoted {
		both(t, `</1>;a="`+val+`"`, to([]int{1}, pair("a", val)))
		both(t, `</1>;a="`+val+`";b,</>;c="`+val+`"`, to([]int{1}, pair("a", val), bare("b")), to(nil, pair("c", val)))
	}
	for c := range 256 {
		val := "a" + string([]byte{byte(c)}) + "b"
		switch {
		case c >= 'a' && c <= 'z' || c >= '0' && c <= '9' || c == '.' || c == '-':
			both(t, "</1>;a="+val, to([]int{1}, pair("a", val)))
		case c >= 0x20 && c <= 0x7e && c != 0x22 && c != 0x5c:
			both(t, `</1>;a="`+val+`"`, to([]int{1}, pair("a", val)))
		default:
			refused(t, to([]int{1}, pair("a", val)))
			reads(t, `</1>;a="`+val+`"`, nil, api.ErrForm)
		}
	}
}

// P17.1: values that aren't right, and a Bare one that has one.
func TestWrongValues(t *testing.T) {
	for _, val := range []string{strings.Repeat("v", 61), strings.Repeat("V", 61), strings.Repeat(" ", 61), strings.Repeat("v", 1<<20), `"`, `\`, `a"b`, `a\b`, `\"`, "\n", "\t", "\x1f", "\x7f", "é", "\u00a0", "\xff", "\x00", "a\ufffdb", "٣"} {
		refused(t, to([]int{1}, pair("a", val)))
		refused(t, to(nil), to([]int{1}, bare("b"), pair("a", val)), to(nil))
		reads(t, `</1>;a=`+val, nil, api.ErrForm)
		reads(t, `</1>;a="`+val+`"`, nil, api.ErrForm)
		reads(t, `</1>;a=`+val+`,</>`, nil, api.ErrForm)
		reads(t, `</1>;a="`+val+`";b,</>`, nil, api.ErrForm)
	}
	for _, val := range []string{"x", " ", "é", `"`} {
		refused(t, to(nil, Pair{Name: "a", Val: val, Bare: true}))
		refused(t, to(nil, bare("a"), Pair{Name: "a", Val: val, Bare: true}), to(nil))
	}
	for _, s := range []string{"=", "=;b", "=,</>", `="`, `="x`, `="x;b`, `=x"`, `=x"y"`, `="x"y`, `="x""y"`, `=""x`, `=="x"`, "=A", "=aB", "=a b", "= a", "=a ", `= "a"`, `="a" `, "=a/b", "=a=b", "='a'", "=<a>", "==a", "==", "x", "<", ">", `"`, `"x"`, " ;b", " "} {
		if s != "x" {
			reads(t, "</1>;a"+s, nil, api.ErrForm)
			reads(t, "</>,</1>;b=1;a"+s, nil, api.ErrForm)
		}
	}
}

// attrs are so many attributes.
func attrs(n int) []Pair { return slices.Repeat([]Pair{pair("a", "1")}, n) }

// P17.1, P17.2: 8 attributes may be there, and no more.
func TestHowManyAttrs(t *testing.T) {
	for n := range 9 {
		both(t, "</1>"+strings.Repeat(";a=1", n), to([]int{1}, attrs(n)...))
		both(t, "</1>"+strings.Repeat(";a=1", n)+",</2>"+strings.Repeat(";a=1", 8), to([]int{1}, attrs(n)...), to([]int{2}, attrs(8)...))
	}
	for _, n := range []int{9, 10, 16, 1 << 20} {
		refused(t, to([]int{1}, attrs(n)...))
		refused(t, to(nil), to([]int{1}, attrs(n)...), to(nil))
		reads(t, "</1>"+strings.Repeat(";a=1", n), nil, api.ErrForm)
		reads(t, "</>,</1>"+strings.Repeat(";a=1", n)+",</>", nil, api.ErrForm)
	}
	reads(t, "</1>"+strings.Repeat(";a", 9), nil, api.ErrForm)
	reads(t, "</1>"+strings.Repeat(";a", 8)+";", nil, api.ErrForm)
}

// P17.1: another sign is wanted.
func TestWrongSigns(t *testing.T) {
	for _, s := range []string{
		" ", ",", ";", "<", ">", "<>", "</", "</5", "</5/0", "/5", "/5>", "5", "</5> ", " </5>", "</5>,", "</5>;", "</5>;a;", "</5>;a,", "</5>,,</5>", "</5>,;a", "</5>;;a", "</5>;,</5>", "</5></5>", "</5>;a</5>", "</5>, </5>", "</5> ,</5>", "</5>; a", "</5> ;a",
		"</5>a", "</5>=a", "</5>x", "<5>", "<</5>", "</5>>", "</5>,<", "</5>,</", ",</5>", ";a", "</5>\n", "</5>\x00", "\ufeff</5>", "\xff", "</5>\xff", "<\xff>", "</5>;a=1.0,</>x", "</5>;a\xff", `</5>;"a"=b`, "</5>;a;b=c;", "</5>;a;b=c,",
	} {
		reads(t, s, nil, api.ErrForm)
		reads(t, "</1/2/3>;ver=1.0,"+s, nil, api.ErrForm)
	}
}

// P17.1, P17.2: 64 links may be there, and no more; a "," behind the 64th is told whatever stands behind it, but not ahead of what is wrong ahead of it.
func TestHowManyLinks(t *testing.T) {
	row := func(n int, one string) string { return strings.TrimSuffix(strings.Repeat(one+",", n), ",") }
	for _, n := range []int{1, 2, 63, 64} {
		both(t, row(n, "</>"), make([]Link, n)...)
		both(t, row(n, "</1>;a=1"), slices.Repeat([]Link{to([]int{1}, attrs(1)...)}, n)...)
	}
	for _, n := range []int{65, 66, 128, 1 << 20} {
		refused(t, make([]Link, n)...)
	}
	refused(t, append(make([]Link, 65), to([]int{-1}))...)
	for _, one := range []string{"</>", "</1>;a", "</1>;a=1", `</1>;a="b c"`, `</1>;a=""`, "</1/2/3>" + strings.Repeat(";a", 8)} {
		full := row(64, one)
		for _, behind := range []string{",", ",</>", ",</", ",x", ",,", ", ", ",\xff", strings.Repeat(",</>", 1<<18), ",</99999>"} {
			reads(t, full+behind, nil, api.ErrMany)
			reads(t, "x"+full+behind, nil, api.ErrForm)
			reads(t, strings.Replace(full, "<", "<5", 1)+behind, nil, api.ErrForm)
			reads(t, full[:len(full)-len(one)]+"<0>"+behind, nil, api.ErrForm)
			reads(t, full[:len(full)-len(one)]+"</1>"+strings.Repeat(";a", 9)+behind, nil, api.ErrForm)
			reads(t, full[:len(full)-len(one)]+"</1>;a="+behind, nil, api.ErrForm)
			reads(t, full[:len(full)-len(one)]+"</1>;a="+strings.Repeat("v", 61)+behind, nil, api.ErrForm)
			reads(t, full+" "+behind, nil, api.ErrForm)
			reads(t, full[len(one)+1:]+behind[:1], nil, api.ErrForm) // the 64th link is wanted
		}
		reads(t, full+"X", nil, api.ErrForm)
		reads(t, full+"</>", nil, api.ErrForm)
		reads(t, full+";", nil, api.ErrForm)
	}
	// A "," between quotes is none.
	reads(t, row(63, "</>")+`,</>;a=",`, nil, api.ErrForm)
	reads(t, row(63, "</>")+`,</>;a=",",`, nil, api.ErrMany)
	reads(t, row(63, "</>")+`,</>;a=","`, append(make([]Link, 63), to(nil, pair("a", ","))), api.OK)
}

// P17.1: links are the same if all that they have is, in its order, be they right or not.
func TestSame(t *testing.T) {
	lists := [][]Link{
		nil, {to(nil)}, {to(nil), to(nil)}, {to([]int{0})}, {to([]int{0, 0})}, {to([]int{1, 0})}, {to([]int{0, 1})}, {to([]int{1})}, {to([]int{-1})}, {to([]int{1, 2, 3, 4})}, {to([]int{1, 2, 3, 5})},
		{to([]int{1}), to([]int{2})}, {to([]int{2}), to([]int{1})}, {to([]int{1}, bare("a"))}, {to([]int{1}, bare("b"))}, {to([]int{1}, bare(""))}, {to([]int{1}, pair("a", ""))}, {to([]int{1}, pair("a", "b"))}, {to([]int{1}, pair("a", "c"))},
		{to([]int{1}, Pair{Name: "a", Val: "b", Bare: true})}, {to([]int{1}, pair("b", "a"))}, {to([]int{1}, bare("a"), bare("b"))}, {to([]int{1}, bare("b"), bare("a"))}, {to([]int{1}, bare("a"), bare("a"))}, {to(nil, bare("a"))},
		{to([]int{1}), to(nil, bare("a"))}, {to([]int{1}, bare("a")), to(nil)}, {to([]int{1}, pair("A", "\xff"))}, {to([]int{1}, pair("A", "\xfe"))}, make([]Link, 100), make([]Link, 101), {to(nil, attrs(20)...)}, {to(nil, attrs(21)...)},
	}
	for i, a := range lists {
		for k, b := range lists {
			if got := link.Same(a, b); got != (i == k) {
				t.Errorf("Same of %s, %s: %t", show(a), show(b), got)
			}
		}
	}
	if !link.Same(nil, []Link{}) || !link.Same([]Link{{Path: []int{}, Attrs: []Pair{}}}, []Link{{}}) || !link.Same([]Link{to([]int{1}, pair("a", "bc"))}, []Link{to([]int{1}, pair("a", "b"+"c"))}) {
		t.Error("Same")
	}
}
