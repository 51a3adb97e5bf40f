package path_test

import (
	"math/big"
	"math/rand"
	"regexp"
	"slices"
	"strconv"
	"strings"
	"testing"

	"outpost/api"
	"outpost/path"
)

// texts goes through all texts of up to so many of some signs.
func texts(signs []string, most int, tell func(string)) {
	tell("")
	if most == 0 {
		return
	}
	for _, s := range signs {
		texts(signs, most-1, func(rest string) { tell(s + rest) })
	}
}

var (
	aPath   = regexp.MustCompile(`^(/|(/(0|[1-9][0-9]*)){1,3})$`)
	aNumber = regexp.MustCompile(`^(0|[1-9][0-9]*)$`)
	aSigned = regexp.MustCompile(`^(0|-?[1-9][0-9]*)$`)
)

// within is the number of a text of a form, if it is no further from 0 than a bound.
func within(form *regexp.Regexp, s string, most int64) (int64, bool) {
	n, ok := new(big.Int).SetString(s, 10)
	if !ok || !form.MatchString(s) || n.CmpAbs(big.NewInt(most)) > 0 {
		return 0, false
	}
	return n.Int64(), true
}

// model is what Read is to answer, written otherwise.
func model(s string) ([]int, api.Errno) {
	if !aPath.MatchString(s) {
		return nil, api.ErrForm
	}
	var p []int
	for _, part := range strings.FieldsFunc(s, func(r rune) bool { return r == '/' }) {
		n, ok := within(aNumber, part, 65535)
		if !ok {
			return nil, api.ErrForm
		}
		p = append(p, int(n))
	}
	return p, api.OK
}

// asModel holds Read against the model; what is read is a path, is written as the same text, and its options tell it (P16.2).
func asModel(t *testing.T, s string) api.Errno {
	t.Helper()
	want, wantE := model(s)
	reads(t, s, want, wantE)
	if wantE != api.OK {
		return wantE
	}
	var segs []string
	for _, n := range want {
		segs = append(segs, strconv.Itoa(n))
	}
	tells(t, segs, want, api.OK)
	if got := path.Text(want); got != s || !path.Right(want) {
		t.Errorf("%v is written as %q", want, got)
	}
	return api.OK
}

// P16.1, P16.2: all short texts of the signs that matter.
func TestAllShortTexts(t *testing.T) {
	right := 0
	texts([]string{"/", "0", "1", "9", "-", "+", "a", " "}, 6, func(s string) {
		if asModel(t, s) == api.OK {
			right++
		}
	})
	if right < 300 {
		t.Errorf("%d were right", right)
	}
}

// P16.1, P16.2: all numbers of a path, and numbers about the bounds.
func TestAllNumbers(t *testing.T) {
	for n := -300; n < 66000; n++ {
		s := strconv.Itoa(n)
		asModel(t, "/"+s)
		if n%7 == 0 {
			asModel(t, "/3/"+s)
			asModel(t, "/0/65535/"+s)
		}
		want := n >= 0 && n <= 65535
		if path.Right([]int{n}) != want || path.Right([]int{1, 2, n}) != want || (path.Text([]int{0, n}) == "/0/"+s) != want {
			t.Errorf("%d", n)
		}
	}
	for bit := range 70 {
		bound := new(big.Int).Lsh(big.NewInt(1), uint(bit))
		for d := int64(-9); d < 10; d++ {
			asModel(t, "/5/"+new(big.Int).Add(bound, big.NewInt(d)).String())
		}
	}
}

// modelCond is what Cond is to answer, written otherwise: name by name.
func modelCond(ps []Pair) (Cond, bool, api.Errno) {
	last := map[string]int64{}
	for _, p := range ps {
		form, most := aSigned, int64(1<<31-1)
		switch p.Name {
		case "pmin", "pmax":
			form, most = aNumber, 65535
		case "gt", "lt", "st":
		default:
			continue
		}
		n, ok := within(form, p.Val, most)
		if !ok || p.Bare {
			return Cond{}, false, api.ErrForm
		}
		last[p.Name] = n
	}
	var c Cond
	c.PMin, c.HasMin = last["pmin"], has(last, "pmin")
	c.PMax, c.HasMax = last["pmax"], has(last, "pmax")
	c.Gt, c.HasGt = last["gt"], has(last, "gt")
	c.Lt, c.HasLt = last["lt"], has(last, "lt")
	c.St, c.HasSt = last["st"], has(last, "st")
	if c.HasMin && c.HasMax && c.PMin > c.PMax || c.HasSt && c.St < 1 {
		return Cond{}, false, api.ErrArg
	}
	return c, len(last) > 0, api.OK
}

// has tells whether a name was told.
func has(last map[string]int64, name string) bool {
	_, ok := last[name]
	return ok
}

// P16.1: all short values of the signs that matter, of each name.
func TestAllShortValues(t *testing.T) {
	texts([]string{"0", "1", "7", "-", "+", "=", " "}, 4, func(s string) {
		for _, name := range []string{"pmin", "pmax", "gt", "lt", "st", "ep"} {
			ps := []Pair{pair(name, s)}
			want, ok, e := modelCond(ps)
			conds(t, want, ok, e, ps...)
		}
	})
	for _, bound := range []int64{0, 65535, 1 << 31, 1 << 32, 1 << 62} {
		for d := int64(-9); d < 10; d++ {
			for _, s := range []string{strconv.FormatInt(bound+d, 10), strconv.FormatInt(-bound-d, 10)} {
				for _, name := range []string{"pmin", "pmax", "gt", "lt", "st"} {
					want, ok, e := modelCond([]Pair{pair(name, s)})
					conds(t, want, ok, e, pair(name, s))
				}
			}
		}
	}
}

// P16.1: many pairs, mostly right, against the model.
func TestRandomConds(t *testing.T) {
	r := rand.New(rand.NewSource(16))
	names := []string{"pmin", "pmax", "gt", "lt", "st", "ep", "pmi", ""}
	told := map[api.Errno]int{}
	for range 50000 {
		var ps []Pair
		for range r.Intn(8) {
			p := pair(names[r.Intn(len(names))], strconv.Itoa(r.Intn(20)))
			switch r.Intn(40) {
			case 0:
				p = bare(p.Name)
			case 1:
				p.Val = "0" + p.Val
			case 2, 3, 4:
				p.Val = "-" + p.Val
			}
			ps = append(ps, p)
		}
		want, wantOK, wantE := modelCond(ps)
		told[wantE]++
		if c, ok, e := path.Cond(path.Queries(ps...)); c != want || ok != wantOK || e != wantE {
			t.Fatalf("Cond of %v: %+v, %t, %d, want %+v, %t, %d", ps, c, ok, e, want, wantOK, wantE)
		}
	}
	for _, e := range []api.Errno{api.OK, api.ErrForm, api.ErrArg} {
		if told[e] < 3000 {
			t.Errorf("%d was answered %d times alone", e, told[e])
		}
	}
}

// P16.2, P5: pairs of any signs are read as they are, if no name has an "=", and so are a path's texts, however the options of both lie.
func TestRandomPairs(t *testing.T) {
	r := rand.New(rand.NewSource(16))
	some := func(signs string) string {
		b := make([]byte, r.Intn(5))
		for i := range b {
			b[i] = signs[r.Intn(len(signs))]
		}
		return string(b)
	}
	for range 20000 {
		var ps []Pair
		var segs []string
		var opts []Opt
		for range r.Intn(9) {
			p := pair(some("ab \x00\xff\xc3\xa9"), some("ab=\x00\xff\xc3\xa9"))
			switch r.Intn(3) {
			case 0:
				segs = append(segs, p.Val)
				opts = append(opts, path.Opts(p.Val)...)
				continue
			case 1:
				p = bare(p.Name)
			}
			ps = append(ps, p)
			opts = append(opts, path.Queries(p)...)
		}
		if got := path.Segs(opts); !slices.Equal(got, segs) {
			t.Fatalf("Segs of %v: %q", opts, got)
		}
		if got := path.Query(opts); !slices.Equal(got, ps) {
			t.Fatalf("Query of %v: %v", opts, got)
		}
	}
}
