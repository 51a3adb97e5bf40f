package link_test

import (
	"math/rand"
	"regexp"
	"strconv"
	"strings"
	"testing"

	"outpost/api"
	"outpost/link"
)

var (
	aName  = regexp.MustCompile(`^[a-z0-9]{1,16}$`)
	aValue = regexp.MustCompile(`^[ !#-\[\]-~]{0,60}$`)
	aPlain = regexp.MustCompile(`^[a-z0-9.-]+$`)
	oneIn  = regexp.MustCompile(`^<((?:/(?:0|[1-9][0-9]{0,4})){1,3}|/)>((?:;[a-z0-9]{1,16}(?:=(?:[a-z0-9.-]{1,60}|"[ !#-\[\]-~]{0,60}"))?){0,8})`)
	attrIn = regexp.MustCompile(`;([a-z0-9]+)(=[a-z0-9.-]+|="[^"]*")?`)
)

// model is what Read is to answer, written otherwise: a link is what of the rest a form goes well with.
func model(s string) ([]Link, api.Errno) {
	var ls []Link
	for s != "" {
		found := oneIn.FindStringSubmatch(s)
		if found == nil {
			return nil, api.ErrForm
		}
		var l Link
		for _, part := range strings.Split(found[1], "/")[1:] {
			n, err := strconv.ParseUint(part, 10, 16)
			if err != nil && found[1] != "/" {
				return nil, api.ErrForm
			}
			if err == nil {
				l.Path = append(l.Path, int(n))
			}
		}
		for _, a := range attrIn.FindAllStringSubmatch(found[2], -1) {
			l.Attrs = append(l.Attrs, Pair{Name: a[1], Val: strings.Trim(strings.TrimPrefix(a[2], "="), `"`), Bare: a[2] == ""})
		}
		ls = append(ls, l)
		s = s[len(found[0]):]
		switch {
		case s == "":
			return ls, api.OK
		case s[0] != ',' || s == "," && len(ls) < 64:
			return nil, api.ErrForm
		case len(ls) == 64:
			return nil, api.ErrMany
		}
		s = s[1:]
	}
	return ls, api.OK
}

// isRight tells whether links are right, in the document's words.
func isRight(ls []Link) bool {
	for _, l := range ls {
		if len(l.Path) > 3 || len(l.Attrs) > 8 {
			return false
		}
		for _, n := range l.Path {
			if n < 0 || n > 65535 {
				return false
			}
		}
		for _, a := range l.Attrs {
			if !aName.MatchString(a.Name) || a.Bare && a.Val != "" || !aValue.MatchString(a.Val) {
				return false
			}
		}
	}
	return len(ls) <= 64
}

// written is links as text, with quotes around all values that aren't plain, and around some that are, if r is there.
func written(ls []Link, r *rand.Rand) string {
	var all []string
	for _, l := range ls {
		s := "<"
		for _, n := range l.Path {
			s += "/" + strconv.Itoa(n)
		}
		if len(l.Path) == 0 {
			s += "/"
		}
		s += ">"
		for _, a := range l.Attrs {
			switch quotes := r != nil && r.Intn(2) == 0; {
			case a.Bare:
				s += ";" + a.Name
			case quotes || !aPlain.MatchString(a.Val):
				s += ";" + a.Name + `="` + a.Val + `"`
			default:
				s += ";" + a.Name + "=" + a.Val
			}
		}
		all = append(all, s)
	}
	return strings.Join(all, ",")
}

// asModel holds Read against the model; what is read is right, is written in no more bytes, and read again as the same (P17.2).
func asModel(t *testing.T, s string) api.Errno {
	t.Helper()
	want, wantE := model(s)
	ls, e := link.Read(s)
	if !same(ls, want) || e != wantE {
		t.Fatalf("Read of %q: %s, %d, want %s, %d", s, show(ls), e, show(want), wantE)
	}
	if e != api.OK {
		return e
	}
	short, e := link.Write(ls)
	if !link.Right(ls) || !isRight(ls) || e != api.OK || len(short) > len(s) || short != written(ls, nil) {
		t.Fatalf("%q is written as %q, %d, right: %t", s, short, e, link.Right(ls))
	}
	if again, e := link.Read(short); !same(again, ls) || !link.Same(again, ls) || e != api.OK {
		t.Fatalf("%q is written as %q, and read as %s, %d", s, short, show(again), e)
	}
	return api.OK
}

// texts goes through all texts of up to so many of some signs.
func texts(signs []string, most int, tell func(string)) {
	tell("")
	if most == 0 {
		return
	}
	for _, s := range signs {
		texts(signs, most-1, func(rest string) { tell(s + rest) })
	}
}

// P17.1, P17.2: all short texts of the signs that matter, and all that may stand behind what begins well.
func TestAllShortTexts(t *testing.T) {
	signs := strings.Split(`</>;="\,a1.A `, "")
	right := 0
	for ahead, most := range map[string]int{"": 4, "<": 4, "</1": 4, "</1>": 4, "</1>;a": 4, "</1>;a=": 4, `</1>;a="`: 4, `</1>;a="b"`: 4, "</>,": 4, strings.Repeat("</>,", 63): 3} {
		texts(signs, most, func(s string) {
			if asModel(t, ahead+s) == api.OK {
				right++
			}
		})
	}
	if right < 500 {
		t.Errorf("%d were right", right)
	}
	for c := range 256 {
		for _, s := range []string{"%", "<%>", "</%>", "</1%>", "</1>%", "</1>;%", "</1>;a%", "</1>;a=%", `</1>;a="%"`, `</1>;a="b"%`, "</1>;a=b%", "</1>,%", "</1>;%=b"} {
			asModel(t, strings.Replace(s, "%", string([]byte{byte(c)}), 1))
		}
	}
}

// P17.1: a text that ends anywhere.
func TestCutTexts(t *testing.T) {
	whole := `</5/0>;ver=1.0;x="a, b";y,</>;z="",</3/0/1>;w="b",</65535>`
	right := 0
	for n := range len(whole) + 1 {
		if asModel(t, whole[:n]) == api.OK {
			right++
		}
		asModel(t, whole[n:])
		asModel(t, whole[:n]+","+whole)
	}
	if right < 15 {
		t.Errorf("%d were right", right)
	}
}

// from is a text of so many signs at least, and at most.
func from(r *rand.Rand, signs string, least, most int) string {
	b := make([]byte, least+r.Intn(most-least+1))
	for i := range b {
		b[i] = signs[r.Intn(len(signs))]
	}
	return string(b)
}

const (
	nameSigns  = "abcdefghijklmnopqrstuvwxyz0123456789"
	valueSigns = " ,;=<>/!#[]{}~AZ.-09az"
)

// random are links that are right.
func random(r *rand.Rand) []Link {
	var ls []Link
	for range []int{r.Intn(4), r.Intn(4), r.Intn(4), 60 + r.Intn(5)}[r.Intn(4)] {
		var l Link
		for range r.Intn(4) {
			l.Path = append(l.Path, []int{0, 1, 5, 10, 300, 65535, r.Intn(65536)}[r.Intn(7)])
		}
		for range []int{0, 1, 2, r.Intn(9)}[r.Intn(4)] {
			a := Pair{Name: from(r, nameSigns, 1, []int{3, 16}[r.Intn(2)])}
			most := []int{0, 3, 60}[r.Intn(3)]
			switch r.Intn(3) {
			case 0:
				a.Bare = true
			case 1:
				a.Val = from(r, nameSigns+".-", 0, most)
			default:
				a.Val = from(r, valueSigns, 0, most)
			}
			l.Attrs = append(l.Attrs, a)
		}
		ls = append(ls, l)
	}
	return ls
}

// P17.1, P17.2, P5: links that are right are written as the model says, and read as they are, be plain values between quotes or not.
func TestRandomLinks(t *testing.T) {
	r := rand.New(rand.NewSource(17))
	last := []Link(nil)
	for range 5000 {
		ls := random(r)
		both(t, written(ls, nil), ls...)
		long := written(ls, r)
		reads(t, long, ls, api.OK)
		asModel(t, long)
		if !link.Same(ls, ls) || link.Same(ls, last) != same(ls, last) {
			t.Errorf("Same of %s, %s", show(ls), show(last))
		}
		if t.Failed() {
			t.FailNow()
		}
		last = ls
	}
}

// P17.1, P17.2: right texts with some signs turned, taken away or laid in, are read as the model says.
func TestRandomTexts(t *testing.T) {
	r := rand.New(rand.NewSource(17))
	signs := `</>;="\,a1.A ` + "\xff\n"
	told := map[api.Errno]int{}
	for range 12000 {
		s := written(random(r), r)
		for range []int{0, 0, 1, 2}[r.Intn(4)] { // two have too many, or none too few
			s += "," + written(random(r), r)
		}
		for range r.Intn(3) {
			at := r.Intn(len(s) + 1)
			behind := min(len(s), at+r.Intn(2))
			s = s[:at] + from(r, signs, 0, 1) + s[behind:]
		}
		told[asModel(t, s)]++
	}
	for _, e := range []api.Errno{api.OK, api.ErrForm, api.ErrMany} {
		if told[e] < 500 {
			t.Errorf("%d was answered %d times alone", e, told[e])
		}
	}
}

// anyLinks are links that may be right or not.
func anyLinks(r *rand.Rand) []Link {
	ls := random(r)
	for range r.Intn(3) {
		ls = append(ls, Link{Path: []int{r.Intn(9)}})
	}
	for i := range ls {
		l := &ls[i]
		if r.Intn(len(ls)*2) > 0 {
			continue
		}
		switch r.Intn(5) {
		case 0:
			l.Path = append(l.Path, []int{-1, 65536, 7, 65535}[r.Intn(4)])
		case 1:
			l.Attrs = append(l.Attrs, Pair{Name: from(r, nameSigns+"A.-;=", 0, 18)})
		case 2:
			l.Attrs = append(l.Attrs, Pair{Name: "a", Val: from(r, valueSigns+"\\\"\n\xff"[:r.Intn(5)], 0, 62)})
		case 3:
			l.Attrs = append(l.Attrs, Pair{Name: "a", Val: from(r, nameSigns, 0, 1), Bare: true})
		default:
			l.Attrs = append(l.Attrs, attrs(r.Intn(9))...)
		}
	}
	return ls
}

// P17.1: Right, Write and Same of any links.
func TestAnyLinks(t *testing.T) {
	r := rand.New(rand.NewSource(17))
	told := map[bool]int{}
	last := []Link(nil)
	for range 30000 {
		ls := anyLinks(r)
		want := isRight(ls)
		told[want]++
		s, e := link.Write(ls)
		if link.Right(ls) != want || (e == api.OK) != want || !want && (e != api.ErrArg || s != "") || want && s != written(ls, nil) {
			t.Fatalf("%s: %t, written as %q, %d, want %t", show(ls), link.Right(ls), s, e, want)
		}
		if link.Same(ls, last) != same(ls, last) || !link.Same(ls, ls) {
			t.Fatalf("Same of %s, %s: %t", show(ls), show(last), link.Same(ls, last))
		}
		last = ls
	}
	if told[true] < 5000 || told[false] < 5000 {
		t.Errorf("right and not: %v", told)
	}
}
