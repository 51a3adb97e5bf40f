package path_test

import (
	"math"
	"slices"
	"strings"
	"testing"

	"outpost/api"
	"outpost/path"
)

// Short names of what is held here.
type (
	Opt  = api.Opt
	Pair = api.Pair
	Cond = api.Cond
)

// pair is a pair with a value.
func pair(name, val string) Pair { return Pair{Name: name, Val: val} }

// bare is a pair without one.
func bare(name string) Pair { return Pair{Name: name, Bare: true} }

// sameOpts holds options against each other.
func sameOpts(a, b []Opt) bool {
	return slices.EqualFunc(a, b, func(x, y Opt) bool { return x.Num == y.Num && string(x.Val) == string(y.Val) })
}

// reads holds what Read is to answer.
func reads(t *testing.T, s string, want []int, wantE api.Errno) {
	t.Helper()
	if p, e := path.Read(s); !slices.Equal(p, want) || e != wantE {
		t.Errorf("Read of %.60q (%d bytes): %v, %d, want %v, %d", s, len(s), p, e, want, wantE)
	}
}

// tells holds which path the options of texts tell, and of these with others between.
func tells(t *testing.T, segs []string, want []int, wantE api.Errno) {
	t.Helper()
	opts := path.Opts(segs...)
	if p, e := path.Of(opts); !slices.Equal(p, want) || e != wantE {
		t.Errorf("Of %.60q: %v, %d, want %v, %d", segs, p, e, want, wantE)
	}
	mixed := []Opt{{Num: api.OptQuery, Val: []byte("7")}}
	for _, o := range opts {
		mixed = append(mixed, o, Opt{Num: api.OptObserve}, Opt{Num: api.OptLocPath, Val: []byte("x")})
	}
	if p, e := path.Of(mixed); !slices.Equal(p, want) || e != wantE {
		t.Errorf("Of %.60q with others between: %v, %d, want %v, %d", segs, p, e, want, wantE)
	}
}

// conds holds what Cond is to answer of pairs, and of these with others between.
func conds(t *testing.T, want Cond, wantOK bool, wantE api.Errno, ps ...Pair) {
	t.Helper()
	mixed := path.Queries(pair("ep", "5"))
	for _, p := range ps {
		mixed = append(mixed, path.Queries(p, pair("PMIN", "x"), bare("pmaxx"), pair("", "1"), pair("step", "-"), bare(" gt"))...)
		mixed = append(mixed, path.Opts("pmin=1", "st=x")...)
	}
	for _, opts := range [][]Opt{path.Queries(ps...), mixed} {
		if c, ok, e := path.Cond(opts); c != want || ok != wantOK || e != wantE {
			t.Errorf("Cond of %.90v: %+v, %t, %d, want %+v, %t, %d", ps, c, ok, e, want, wantOK, wantE)
		}
	}
}

// P16.1: the document's own examples.
func TestExamples(t *testing.T) {
	reads(t, "/5/0/3", []int{5, 0, 3}, api.OK)
	if got := path.Text([]int{5, 0, 3}); got != "/5/0/3" {
		t.Errorf("Text: %q", got)
	}
	conds(t, Cond{}, false, api.ErrArg, pair("pmin", "10"), pair("pmax", "5"))
}

// P16.1, P16.2: paths, their texts, and their options.
func TestPaths(t *testing.T) {
	for _, c := range []struct {
		text string
		p    []int
	}{
		{"/", nil}, {"/", []int{}}, {"/0", []int{0}}, {"/5", []int{5}}, {"/65535", []int{65535}}, {"/10/100", []int{10, 100}}, {"/0/0", []int{0, 0}},
		{"/0/0/0", []int{0, 0, 0}}, {"/65535/65535/65535", []int{65535, 65535, 65535}}, {"/1/20/300", []int{1, 20, 300}}, {"/9/0/65534", []int{9, 0, 65534}},
	} {
		if !path.Right(c.p) {
			t.Errorf("%v isn't a path", c.p)
		}
		if got := path.Text(c.p); got != c.text {
			t.Errorf("Text of %v: %q", c.p, got)
		}
		reads(t, c.text, c.p, api.OK)
		segs := strings.Split(c.text, "/")[1:]
		if len(c.p) == 0 {
			segs = nil
		}
		tells(t, segs, c.p, api.OK)
	}
}

// P16.1: numbers that aren't a path.
func TestNoPaths(t *testing.T) {
	for _, p := range [][]int{
		{-1}, {65536}, {0, -1}, {1, 65536}, {1, 2, -1}, {1, 2, 65536}, {-1, 2, 3}, {65536, 2, 3}, {1, -1, 3}, {math.MaxInt}, {math.MinInt}, {1 << 32}, {5, 1<<32 + 5},
		{1, 2, 3, 4}, {0, 0, 0, 0}, {1, 2, 3, -1}, make([]int, 5), make([]int, 1<<20),
	} {
		if path.Right(p) {
			t.Errorf("%.40v is a path", p)
		}
		if got := path.Text(p); got != "" {
			t.Errorf("Text of %.40v: %.40q", p, got)
		}
	}
}

// noNumbers are texts that aren't a number's.
var noNumbers = []string{
	"", "00", "01", "007", "-1", "-0", "+1", "+0", " 1", "1 ", "1.0", "0x1", "1e1", "1_0", "a", "rd", "1a", "a1", "٣", "1\x00", "\xff", "1\xff", "65536", "65537", "99999", "100000",
	"4294967296", "18446744073709551616", "18446744073709551617", "9223372036854775808", strings.Repeat("9", 100), strings.Repeat("0", 1<<20), strings.Repeat("1", 1<<20), "1\n", "1=", "-",
}

// P16.1: texts that aren't a path's.
func TestWrongTexts(t *testing.T) {
	for _, s := range []string{"", "5", "5/0", "//", "///", "////", "/5/", "/5/0/", "/5/0/3/", "/5//3", "//5", " /5", "/5 ", "/ 5", "\\5", "/1/2/3/4", "/0/0/0/0", "/1/2/3/x", "a/5", "/5/0?", strings.Repeat("/", 1<<20), strings.Repeat("/1", 1<<20)} {
		reads(t, s, nil, api.ErrForm)
	}
	for _, s := range noNumbers {
		if s != "" {
			reads(t, s, nil, api.ErrForm)
			reads(t, "/"+s, nil, api.ErrForm)
		}
		reads(t, "/1/"+s, nil, api.ErrForm)
		reads(t, "/"+s+"/1", nil, api.ErrForm)
		reads(t, "/1/2/"+s, nil, api.ErrForm)
		reads(t, "/1/"+s+"/3", nil, api.ErrForm)
	}
}

// P16.1: options that tell no path; more than three are told ahead of what isn't a number.
func TestWrongOptions(t *testing.T) {
	tells(t, []string{"rd"}, nil, api.ErrForm)
	tells(t, []string{"1/2"}, nil, api.ErrForm)
	tells(t, []string{"/1"}, nil, api.ErrForm)
	for _, s := range noNumbers {
		tells(t, []string{s}, nil, api.ErrForm)
		tells(t, []string{s, "1"}, nil, api.ErrForm)
		tells(t, []string{"1", s}, nil, api.ErrForm)
		tells(t, []string{"1", "2", s}, nil, api.ErrForm)
		tells(t, []string{s, "2", "3", "4"}, nil, api.ErrMany)
		tells(t, []string{"1", "2", "3", s}, nil, api.ErrMany)
		tells(t, []string{s, s, s, s}, nil, api.ErrMany)
	}
	tells(t, []string{"1", "2", "3", "4"}, nil, api.ErrMany)
	tells(t, make([]string, 1000), nil, api.ErrMany)
}

// P16.1, P16.2: texts of any signs, any size, and any count are options in order, and are read as they are.
func TestSegs(t *testing.T) {
	for _, segs := range [][]string{
		nil, {}, {""}, {"", ""}, {"rd"}, {"5", "0", "3"}, {"b", "a", "b"}, {"a/b", "=", "é", "\xff\x00"}, {strings.Repeat("x", 1000)}, make([]string, 100),
	} {
		var want []Opt
		for _, s := range segs {
			want = append(want, Opt{Num: 11, Val: []byte(s)})
		}
		opts := path.Opts(segs...)
		if !sameOpts(opts, want) {
			t.Errorf("Opts of %.60q: %.60v", segs, opts)
		}
		if got := path.Segs(opts); !slices.Equal(got, segs) {
			t.Errorf("Segs of %.60v: %.60q", opts, got)
		}
	}
	// Those of other numbers don't count, and they stay in the order in which they stand.
	opts := []Opt{{Num: 15, Val: []byte("q")}, {Num: 11, Val: []byte("z")}, {Num: -11, Val: []byte("-")}, {Num: 8, Val: []byte("l")}, {Num: 11, Val: nil}, {Num: 11 + 1<<16, Val: []byte("o")}, {Num: 11, Val: []byte("a")}, {Num: 12, Val: []byte("f")}}
	if got := path.Segs(opts); !slices.Equal(got, []string{"z", "", "a"}) {
		t.Errorf("Segs of %v: %q", opts, got)
	}
	if got := path.Segs(nil); len(got) != 0 {
		t.Errorf("Segs of nothing: %q", got)
	}
}

// P16.1, P16.2: a pair's name ends ahead of the first "=".
func TestQuery(t *testing.T) {
	for text, want := range map[string]Pair{
		"": bare(""), "=": pair("", ""), "==": pair("", "="), "a": bare("a"), "a=": pair("a", ""), "=a": pair("", "a"), "a=b": pair("a", "b"), "a=b=c": pair("a", "b=c"), "a==": pair("a", "="),
		"a b=c d": pair("a b", "c d"), "é=\xff": pair("é", "\xff"), "\xc3=\xa9": pair("\xc3", "\xa9"), "\x00=\x00": pair("\x00", "\x00"), "\xff": bare("\xff"), "pmin=10": pair("pmin", "10"),
		strings.Repeat("n", 1000) + "=" + strings.Repeat("v", 1000): pair(strings.Repeat("n", 1000), strings.Repeat("v", 1000)),
	} {
		opts := []Opt{{Num: 15, Val: []byte(text)}}
		if got := path.Query(opts); !slices.Equal(got, []Pair{want}) {
			t.Errorf("Query of %.60q: %.60v", text, got)
		}
		if got := path.Queries(want); !sameOpts(got, opts) {
			t.Errorf("Queries of %.60v: %.60v", want, got)
		}
	}
	// A Bare one's value is nowhere told, and a name's "=" ends it.
	for want, p := range map[string]Pair{"a": {Name: "a", Val: "b", Bare: true}, "": {Val: "b", Bare: true}, "a=b": {Name: "a=b", Bare: true}, "a=b=c": pair("a=b", "c")} {
		if got := path.Queries(p); !sameOpts(got, []Opt{{Num: 15, Val: []byte(want)}}) {
			t.Errorf("Queries of %v: %v", p, got)
		}
	}
}

// P16.1, P16.2: pairs in order, of options in which others stand between.
func TestManyPairs(t *testing.T) {
	ps := []Pair{pair("b", "2"), bare("a"), pair("b", "1"), pair("a", ""), bare("a")}
	opts := path.Queries(ps...)
	if got := path.Query(opts); !slices.Equal(got, ps) {
		t.Errorf("Query: %v", got)
	}
	var mixed []Opt
	for _, o := range opts {
		mixed = append(mixed, Opt{Num: 11, Val: []byte("x=y")}, o, Opt{Num: 17}, Opt{Num: -15, Val: []byte("z")})
	}
	if got := path.Query(mixed); !slices.Equal(got, ps) {
		t.Errorf("Query with others between: %v", got)
	}
	if len(path.Query(nil)) != 0 || len(path.Query(path.Opts("a=b"))) != 0 || len(path.Queries()) != 0 || len(path.Opts()) != 0 {
		t.Error("there are some of none")
	}
}

// P16.1: each of the five names alone.
func TestEachCond(t *testing.T) {
	conds(t, Cond{}, false, api.OK)
	for text, n := range map[string]int64{"0": 0, "1": 1, "9": 9, "10": 10, "65534": 65534, "65535": 65535, "65536": 65536, "2147483646": 1<<31 - 2, "2147483647": 1<<31 - 1, "-1": -1, "-10": -10, "-65536": -65536, "-2147483646": 2 - 1<<31, "-2147483647": 1 - 1<<31} {
		timeOK, timeE := n >= 0 && n <= 65535, api.OK
		least, most := Cond{PMin: n, HasMin: true}, Cond{PMax: n, HasMax: true}
		if !timeOK {
			least, most, timeE = Cond{}, Cond{}, api.ErrForm
		}
		conds(t, least, timeOK, timeE, pair("pmin", text))
		conds(t, most, timeOK, timeE, pair("pmax", text))
		conds(t, Cond{Gt: n, HasGt: true}, true, api.OK, pair("gt", text))
		conds(t, Cond{Lt: n, HasLt: true}, true, api.OK, pair("lt", text))
		step, stepE := Cond{St: n, HasSt: true}, api.OK
		if n <= 0 {
			step, stepE = Cond{}, api.ErrArg
		}
		conds(t, step, n > 0, stepE, pair("st", text))
	}
}

// P16.1: values that aren't so, also of one that doesn't count, and what has none; ahead of ErrArg, wherever they stand.
func TestWrongConds(t *testing.T) {
	wrong := []string{"-00", "-01", "--1", "-+1", "+-1", "1-", "-1-", "- 1", "-a", "2147483648", "-2147483648", "2147483649", "4294967297", "-18446744073709551615", "-9223372036854775808"}
	for _, s := range noNumbers {
		if !strings.Contains(" -1 65536 65537 99999 100000 ", " "+s+" ") {
			wrong = append(wrong, s)
		}
	}
	for _, name := range []string{"pmin", "pmax", "gt", "lt", "st"} {
		bads := []Pair{bare(name)}
		for _, s := range wrong {
			bads = append(bads, pair(name, s))
		}
		if name[0] == 'p' {
			bads = append(bads, pair(name, "-1"), pair(name, "65536"), pair(name, "-65535"), pair(name, "2147483647"))
		}
		for _, bad := range bads {
			conds(t, Cond{}, false, api.ErrForm, bad)
			conds(t, Cond{}, false, api.ErrForm, bad, pair(name, "5"))
			conds(t, Cond{}, false, api.ErrForm, pair(name, "5"), bad)
			conds(t, Cond{}, false, api.ErrForm, pair(name, "5"), bad, pair(name, "6"))
			conds(t, Cond{}, false, api.ErrForm, pair("st", "0"), pair("pmin", "9"), pair("pmax", "8"), bad)
			conds(t, Cond{}, false, api.ErrForm, bad, pair("st", "-3"))
		}
	}
}

// P16.1: of each name the last one counts, for ErrArg too.
func TestWhichCounts(t *testing.T) {
	conds(t, Cond{Gt: -7, HasGt: true}, true, api.OK, pair("gt", "3"), pair("gt", "0"), pair("gt", "-7"))
	conds(t, Cond{PMin: 0, HasMin: true}, true, api.OK, pair("pmin", "9"), pair("pmin", "0"))
	conds(t, Cond{St: 1, HasSt: true}, true, api.OK, pair("st", "0"), pair("st", "-5"), pair("st", "1"))
	conds(t, Cond{}, false, api.ErrArg, pair("st", "1"), pair("st", "0"))
	conds(t, Cond{}, false, api.ErrArg, pair("st", "1"), pair("gt", "1"), pair("st", "-1"))
	both := Cond{PMin: 3, PMax: 7, HasMin: true, HasMax: true}
	conds(t, both, true, api.OK, pair("pmin", "3"), pair("pmax", "7"))
	conds(t, both, true, api.OK, pair("pmax", "7"), pair("pmin", "3"))
	conds(t, both, true, api.OK, pair("pmin", "9"), pair("pmax", "7"), pair("pmin", "3"))
	conds(t, both, true, api.OK, pair("pmax", "1"), pair("pmin", "3"), pair("pmax", "7"))
	conds(t, Cond{}, false, api.ErrArg, pair("pmin", "3"), pair("pmax", "7"), pair("pmin", "8"))
	conds(t, Cond{}, false, api.ErrArg, pair("pmax", "7"), pair("pmin", "3"), pair("pmax", "2"))
	conds(t, Cond{PMin: 5, PMax: 5, HasMin: true, HasMax: true}, true, api.OK, pair("pmin", "5"), pair("pmax", "5"))
	conds(t, Cond{HasMin: true, HasMax: true}, true, api.OK, pair("pmin", "0"), pair("pmax", "0"))
	conds(t, Cond{}, false, api.ErrArg, pair("pmin", "1"), pair("pmax", "0"))
	conds(t, Cond{PMin: 65535, HasMin: true}, true, api.OK, pair("pmin", "65535"))
	conds(t, Cond{HasMax: true}, true, api.OK, pair("pmax", "0"))
	all := Cond{PMin: 1, PMax: 2, HasMin: true, HasMax: true, Gt: -3, Lt: 4, St: 5, HasGt: true, HasLt: true, HasSt: true}
	conds(t, all, true, api.OK, pair("st", "5"), pair("lt", "4"), pair("gt", "-3"), pair("pmax", "2"), pair("pmin", "1"))
	conds(t, Cond{Gt: 9, Lt: -9, HasGt: true, HasLt: true}, true, api.OK, pair("gt", "9"), pair("lt", "-9"))
}
