package opt_test

import (
	"bytes"
	"math"
	"slices"
	"strings"
	"testing"

	"outpost/api"
	"outpost/opt"
)

// o is an option.
func o(num int, val string) api.Opt { return api.Opt{Num: num, Val: []byte(val)} }

// empty are options without a value.
func empty(nums ...int) []api.Opt {
	var opts []api.Opt
	for _, n := range nums {
		opts = append(opts, api.Opt{Num: n})
	}
	return opts
}

// same tells whether options are the same, in their order.
func same(a, b []api.Opt) bool {
	return slices.EqualFunc(a, b, func(x, y api.Opt) bool { return x.Num == y.Num && bytes.Equal(x.Val, y.Val) })
}

// sorted are options by rising number, those of one number as they stand: each goes ahead of the first that is greater.
func sorted(opts []api.Opt) []api.Opt {
	var all []api.Opt
	for _, x := range opts {
		i := len(all)
		for i > 0 && all[i-1].Num > x.Num {
			i--
		}
		all = slices.Insert(all, i, x)
	}
	return all
}

func writes(t *testing.T, what string, opts []api.Opt, want string, wrong api.Errno) {
	t.Helper()
	if b, e := opt.Write(opts); string(b) != want || e != wrong {
		t.Errorf("%s: Write: %x, %d, want %x, %d", what, b, e, want, wrong)
	}
}

func reads(t *testing.T, what, b string, want []api.Opt, size int, wrong api.Errno) {
	t.Helper()
	if opts, n, e := opt.Read([]byte(b)); !same(opts, want) || n != size || e != wrong {
		t.Errorf("%s: Read of %x: %v, %d, %d, want %v, %d, %d", what, b, opts, n, e, want, size, wrong)
	}
}

// both holds that options by rising number are these bytes, and that these are read as them, whatever is behind 255.
func both(t *testing.T, what string, opts []api.Opt, b string) {
	t.Helper()
	writes(t, what, opts, b, api.OK)
	for _, behind := range []string{"", "\xff", "\xff\xff", "\xff\x11a\x0f", "\xffbody"} {
		reads(t, what, b+behind, opts, len(b), api.OK)
	}
}

// P8.1: the document's own examples.
func TestExamples(t *testing.T) {
	both(t, "two of 11", []api.Opt{o(11, "a"), o(11, "b")}, "\xb1a\x01b")
	val := strings.Repeat("x", 269)
	both(t, "269 bytes", []api.Opt{o(12, val)}, "\xce\x00\x00"+val)
}

// P8.1, P8.2: deltas and lengths of four bits, of a byte more and of two, at their edges.
func TestDeltasAndLengths(t *testing.T) {
	both(t, "none", nil, "")
	both(t, "none", []api.Opt{}, "")
	for num, b := range map[int]string{
		0: "\x00", 1: "\x10", 12: "\xc0", 13: "\xd0\x00", 14: "\xd0\x01", 268: "\xd0\xff",
		269: "\xe0\x00\x00", 270: "\xe0\x00\x01", 524: "\xe0\x00\xff", 525: "\xe0\x01\x00", 65534: "\xe0\xfe\xf1", 65535: "\xe0\xfe\xf2",
	} {
		both(t, "number", empty(num), b)
		both(t, "number of two", empty(num, num), b+"\x00")
		if num <= 65535-5 {
			both(t, "number behind 5", empty(5, 5+num), "\x50"+b)
		}
	}
	for size, b := range map[int]string{
		0: "\x50", 1: "\x51", 12: "\x5c", 13: "\x5d\x00", 14: "\x5d\x01", 255: "\x5d\xf2", 268: "\x5d\xff", 269: "\x5e\x00\x00", 270: "\x5e\x00\x01", 300: "\x5e\x00\x1f",
	} {
		val := strings.Repeat("\xff", size)
		both(t, "length", []api.Opt{o(5, val)}, b+val)
		both(t, "length of one ahead", []api.Opt{o(5, val), o(6, "a")}, b+val+"\x11a")
	}
	both(t, "the delta's byte first", []api.Opt{o(14, strings.Repeat("a", 15))}, "\xdd\x01\x02"+strings.Repeat("a", 15))
	both(t, "the delta's two first", []api.Opt{o(269+258, strings.Repeat("a", 13))}, "\xed\x01\x02\x00"+strings.Repeat("a", 13))
	both(t, "the delta's byte, the length's two", []api.Opt{o(22, strings.Repeat("a", 270))}, "\xde\x09\x00\x01"+strings.Repeat("a", 270))
	both(t, "two of each", []api.Opt{o(300, strings.Repeat("a", 299))}, "\xee\x00\x1f\x00\x1e"+strings.Repeat("a", 299))
}

// P8.1, P8.2: every number, and every length, is written and read.
func TestAllNumbersAndLengths(t *testing.T) {
	for num := range 65536 {
		opts := empty(num/2, num)
		if b, e := opt.Write(opts); e != api.OK {
			t.Fatalf("%d: %d", num, e)
		} else if got, n, e := opt.Read(b); !same(got, opts) || n != len(b) || e != api.OK {
			t.Fatalf("%d: %v, %d, %d", num, got, n, e)
		}
	}
	for size := range api.MaxOpt + 1 {
		opts := []api.Opt{{Num: 3, Val: bytes.Repeat([]byte{byte(size)}, size)}, o(7, "\x00")}
		b, e := opt.Write(opts)
		if got, n, wrong := opt.Read(b); e != api.OK || !same(got, opts) || n != len(b) || wrong != api.OK {
			t.Fatalf("%d: %d, %v, %d, %d", size, e, got, n, wrong)
		}
	}
}

// P8.1: what is written is sorted by number; those of one number stay in their order, however many there are.
func TestWriteSorts(t *testing.T) {
	writes(t, "two", []api.Opt{o(11, "b"), o(6, "")}, "\x60\x51b", api.OK)
	writes(t, "five", []api.Opt{o(11, "b"), o(3, "z"), o(11, "a"), o(3, ""), o(11, "b")}, "\x31z\x00\x81b\x01a\x01b", api.OK)
	for _, most := range []int{1, 2, 3, 5} {
		var opts []api.Opt
		for i := range api.MaxOpts {
			opts = append(opts, o(i*7%most, string(rune('a'+i))))
		}
		b, e := opt.Write(opts)
		if got, n, wrong := opt.Read(b); e != api.OK || !same(got, sorted(opts)) || n != len(b) || wrong != api.OK {
			t.Errorf("of %d numbers: %d, %v, %d, %d", most, e, got, n, wrong)
		}
	}
}

// P8.1, P1: Write's errors, in their order, and their edges.
func TestErrorsOfWrite(t *testing.T) {
	long, longest := strings.Repeat("a", 301), strings.Repeat("a", 300)
	for _, c := range []struct {
		what  string
		opts  []api.Opt
		wrong api.Errno
	}{
		{"25", make([]api.Opt, 25), api.ErrMany},
		{"1000", make([]api.Opt, 1000), api.ErrMany},
		{"25, the last below 0", append(make([]api.Opt, 24), empty(-1)...), api.ErrMany},
		{"25, the first below 0 and long", append([]api.Opt{o(-1, long)}, make([]api.Opt, 24)...), api.ErrMany},
		{"below 0", empty(-1), api.ErrArg},
		{"far below 0", empty(math.MinInt), api.ErrArg},
		{"above 65535", empty(65536), api.ErrArg},
		{"far above 65535", empty(math.MaxInt), api.ErrArg},
		{"a number that is right in 32 bits", empty(1 << 32), api.ErrArg},
		{"above behind others", empty(0, 65535, 65536), api.ErrArg},
		{"below behind others", empty(0, 1, -1), api.ErrArg},
		{"above and long", []api.Opt{o(65536, long)}, api.ErrArg},
		{"long, and above behind it", []api.Opt{o(1, long), o(65536, "")}, api.ErrArg},
		{"long, and below behind it", []api.Opt{o(1, long), o(-5, "")}, api.ErrArg},
		{"long", []api.Opt{o(1, long)}, api.ErrLong},
		{"longer", []api.Opt{o(1, long+longest)}, api.ErrLong},
		{"as long as a length goes", []api.Opt{o(1, strings.Repeat("a", 269+65536))}, api.ErrLong},
		{"long behind others", []api.Opt{o(1, ""), o(9, longest), o(0, long)}, api.ErrLong},
		{"24, the last long", append(make([]api.Opt, 23), o(0, long)), api.ErrLong},
	} {
		writes(t, c.what, c.opts, "", c.wrong)
	}
	both(t, "24", make([]api.Opt, 24), strings.Repeat("\x00", 24))
	both(t, "the ends", []api.Opt{o(0, longest), o(65535, longest)}, "\x0e\x00\x1f"+longest+"\xee\xfe\xf2\x00\x1f"+longest)
	var most []api.Opt
	for range api.MaxOpts {
		most = append(most, o(65535, longest))
	}
	both(t, "24 of the greatest", most, "\xee\xfe\xf2\x00\x1f"+longest+strings.Repeat("\x0e\x00\x1f"+longest, 23))
}

// P8.1, P1: Read's errors, and of one option their order; an option ahead of it doesn't count then.
func TestErrorsOfRead(t *testing.T) {
	most := strings.Repeat("\x00", 24)
	for _, c := range []struct {
		what, b string
		wrong   api.Errno
	}{
		{"a delta of 15", "\xf0", api.ErrForm},
		{"a delta of 15, a length of 14", "\xfe\x00\x00", api.ErrForm},
		{"a length of 15", "\x0f", api.ErrForm},
		{"a length of 15, and bytes enough", "\x1f" + strings.Repeat("a", 20), api.ErrForm},
		{"a length of 15 behind a delta of 14", "\xef\xff\xff", api.ErrForm},
		{"no byte of a delta", "\xd0", api.ErrForm},
		{"no bytes of a delta", "\xe0", api.ErrForm},
		{"one byte of a delta", "\xe0\x01", api.ErrForm},
		{"no byte of a length", "\x0d", api.ErrForm},
		{"no bytes of a length", "\x0e", api.ErrForm},
		{"one byte of a length", "\x0e\x00", api.ErrForm},
		{"a delta's byte, no length's", "\xdd\x00", api.ErrForm},
		{"a delta's bytes, one of a length's", "\xee\x00\x00\x00", api.ErrForm},
		{"no value", "\x11", api.ErrForm},
		{"half a value", "\x12a", api.ErrForm},
		{"a value that is one too short", "\x0d\x00" + strings.Repeat("a", 12), api.ErrForm},
		{"a value of 300 that is one too short", "\x0e\x00\x1f" + strings.Repeat("a", 299), api.ErrForm},
		{"a number of 65536", "\xe0\xfe\xf3", api.ErrArg},
		{"a number of 65804", "\xe0\xff\xff", api.ErrArg},
		{"65535 and one more", "\xe0\xfe\xf2\x10", api.ErrArg},
		{"65535 and many more", "\xe0\xfe\xf2\xe0\xff\xff", api.ErrArg},
		{"a value of 301", "\x0e\x00\x20" + strings.Repeat("a", 301), api.ErrLong},
		{"a value of 301 that isn't there", "\x0e\x00\x20", api.ErrLong},
		{"a value of 65804 that isn't there", "\x0e\xff\xff", api.ErrLong},
		{"25", most + "\x00", api.ErrMany},

		{"the 25th: a delta of 15", most + "\xf0", api.ErrForm},
		{"the 25th: a length of 15", most + "\x0f", api.ErrForm},
		{"the 25th: no byte of a delta", most + "\xd0", api.ErrForm},
		{"the 25th: one byte of a length", most + "\x0e\x00", api.ErrForm},
		{"the 25th, above 65535", most + "\xe0\xff\xff", api.ErrMany},
		{"the 25th, long", most + "\x0e\xff\xff", api.ErrMany},
		{"the 25th, no value", most + "\x05", api.ErrMany},
		{"above 65535: a length of 15", "\xef\xff\xff", api.ErrForm},
		{"above 65535: one byte of a length", "\xee\xff\xff\x00", api.ErrForm},
		{"above 65535, and long", "\xee\xff\xff\xff\xff", api.ErrArg},
		{"above 65535, no value", "\xe5\xff\xff", api.ErrArg},

		{"the first one counts: ErrArg", "\xe0\xff\xff\xf0", api.ErrArg},
		{"the first one counts: ErrLong", "\x0e\x00\x20" + strings.Repeat("a", 301) + "\xe0\xff\xff", api.ErrLong},
		{"the first one counts: ErrMany", most + "\x00\xf0", api.ErrMany},
		{"the first one counts: ErrForm", "\x0f\xe0\xff\xff", api.ErrForm},
	} {
		reads(t, c.what, c.b, nil, 0, c.wrong)
		if !strings.HasPrefix(c.b, most) {
			reads(t, c.what+", behind one", "\x01b"+c.b, nil, 0, c.wrong)
		}
		reads(t, c.what+", behind 255", "\x01b\xff"+c.b, []api.Opt{o(0, "b")}, 2, api.OK)
	}
}

// P8.1: 255 ends the options where one could begin, and is a byte as others elsewhere.
func TestTheEnd(t *testing.T) {
	reads(t, "nothing", "", nil, 0, api.OK)
	reads(t, "255 alone", "\xff", nil, 0, api.OK)
	reads(t, "255 first", "\xff\x11a", nil, 0, api.OK)
	reads(t, "255 behind an option", "\x11a\xff\x11b", []api.Opt{o(1, "a")}, 2, api.OK)
	reads(t, "255 behind 24", strings.Repeat("\x00", 24)+"\xff\x00", make([]api.Opt, 24), 24, api.OK)
	reads(t, "255 as a value", "\x11\xff\x12\xff\xff", []api.Opt{o(1, "\xff"), o(2, "\xff\xff")}, 5, api.OK)
	reads(t, "255 as a delta's byte", "\xd0\xff", empty(268), 2, api.OK)
	reads(t, "255 as a delta's lower byte", "\xe0\x00\xff", empty(524), 3, api.OK)
	reads(t, "255 as a length's byte", "\x0d\xff"+strings.Repeat("\xff", 268), []api.Opt{o(0, strings.Repeat("\xff", 268))}, 270, api.OK)
	reads(t, "255 within an option", "\x12a\xff", []api.Opt{o(1, "a\xff")}, 3, api.OK)
	reads(t, "255 in the place of a value's byte", "\x13a\xff", nil, 0, api.ErrForm)
}

// P8.1: Get, All, Without and Add, of options in whatever order.
func TestLookedThrough(t *testing.T) {
	opts := []api.Opt{o(11, "a"), o(3, "x"), o(11, "b"), o(60, ""), o(11, "a"), o(-4, "below")}
	for _, c := range []struct {
		num     int
		ok      bool
		all     []string
		without []api.Opt
	}{
		{11, true, []string{"a", "b", "a"}, []api.Opt{o(3, "x"), o(60, ""), o(-4, "below")}},
		{3, true, []string{"x"}, []api.Opt{o(11, "a"), o(11, "b"), o(60, ""), o(11, "a"), o(-4, "below")}},
		{60, true, []string{""}, []api.Opt{o(11, "a"), o(3, "x"), o(11, "b"), o(11, "a"), o(-4, "below")}},
		{-4, true, []string{"below"}, []api.Opt{o(11, "a"), o(3, "x"), o(11, "b"), o(60, ""), o(11, "a")}},
		{0, false, nil, opts}, {4, false, nil, opts}, {12, false, nil, opts}, {11 + 65536, false, nil, opts}, {math.MaxInt, false, nil, opts}, {math.MinInt, false, nil, opts},
	} {
		val, ok := opt.Get(opts, c.num)
		if ok != c.ok || ok && string(val) != c.all[0] || !ok && val != nil {
			t.Errorf("Get %d: %q, %t", c.num, val, ok)
		}
		all := opt.All(opts, c.num)
		if !slices.EqualFunc(all, c.all, func(a []byte, b string) bool { return string(a) == b }) {
			t.Errorf("All %d: %q", c.num, all)
		}
		if got := opt.Without(opts, c.num); !same(got, c.without) {
			t.Errorf("Without %d: %v", c.num, got)
		}
	}
	for _, none := range [][]api.Opt{nil, {}} {
		if val, ok := opt.Get(none, 11); val != nil || ok {
			t.Errorf("Get of none: %q, %t", val, ok)
		}
		if len(opt.All(none, 11)) != 0 || len(opt.Without(none, 11)) != 0 {
			t.Error("All or Without of none")
		}
	}
	if got := opt.Without(opts[:1], 11); len(got) != 0 {
		t.Errorf("Without the only one: %v", got)
	}
	// There is no bound here: they needn't be such as can be written.
	many := empty(make([]int, 100)...)
	if len(opt.All(many, 0)) != 100 || len(opt.Without(many, 1)) != 100 || len(opt.Without(many, 0)) != 0 || len(opt.Add(many, 0, nil)) != 101 {
		t.Error("100 options")
	}
}

// P8.1: one more stands ahead of the first one of a greater number, or last.
func TestAdd(t *testing.T) {
	for _, c := range []struct {
		ahead, behind []api.Opt
		num           int
	}{
		{nil, nil, 11},
		{[]api.Opt{}, nil, 0},
		{nil, empty(1), 0},
		{empty(1), nil, 1},
		{empty(1), nil, 2},
		{empty(1, 5, 5), empty(7), 5},
		{empty(1, 5, 5), empty(7), 6},
		{empty(1), empty(5, 5, 7), 4},
		{empty(1, 5, 5, 7), nil, 9},
		{empty(1, 5), empty(7, 7), 6},
		{nil, empty(9, 1, 9), 8}, // not sorted
		{empty(9, 1, 9), empty(10, 2), 9},
		{nil, empty(0, 1), -1},
		{nil, empty(0), math.MinInt},
		{empty(0, 65535), nil, 65536},
		{empty(0, math.MaxInt), nil, math.MaxInt},
	} {
		for _, val := range []string{"", "x", strings.Repeat("x", 301)} {
			got := opt.Add(slices.Concat(c.ahead, c.behind), c.num, []byte(val))
			if want := slices.Concat(c.ahead, []api.Opt{o(c.num, val)}, c.behind); !same(got, want) {
				t.Errorf("Add %d: %v, want %v", c.num, got, want)
			}
		}
	}
	if got := opt.Add(nil, 3, nil); !same(got, empty(3)) {
		t.Errorf("Add nil: %v", got)
	}
	var opts []api.Opt
	for i, num := range []int{11, 3, 11, 60, 0, 3, 11} {
		opts = opt.Add(opts, num, []byte{byte(i)})
	}
	if want := []api.Opt{o(0, "\x04"), o(3, "\x01"), o(3, "\x05"), o(11, "\x00"), o(11, "\x02"), o(11, "\x06"), o(60, "\x03")}; !same(opts, want) {
		t.Errorf("Add by Add: %v", opts)
	}
}

// P8.1, P5: numbers as few bytes, the highest first, there and back.
func TestNumbers(t *testing.T) {
	for n, want := range map[int64]string{
		math.MinInt64: "", -256: "", -1: "", 0: "", 1: "\x01", 127: "\x7f", 128: "\x80", 255: "\xff", 256: "\x01\x00", 258: "\x01\x02", 65535: "\xff\xff", 65536: "\x01\x00\x00",
		1<<24 - 1: "\xff\xff\xff", 1 << 24: "\x01\x00\x00\x00", 1<<31 - 1: "\x7f\xff\xff\xff", 1<<32 - 1: "\xff\xff\xff\xff", 1 << 32: "\x01\x00\x00\x00\x00", 1 << 40: "\x01\x00\x00\x00\x00\x00",
		1<<48 - 1: "\xff\xff\xff\xff\xff\xff", 1 << 48: "\x01\x00\x00\x00\x00\x00\x00", 1<<56 - 1: "\xff\xff\xff\xff\xff\xff\xff", 0x01020304050607: "\x01\x02\x03\x04\x05\x06\x07",
		1 << 56: "\x01\x00\x00\x00\x00\x00\x00\x00", math.MaxInt64: "\x7f\xff\xff\xff\xff\xff\xff\xff",
	} {
		b := opt.Uint(n)
		if string(b) != want {
			t.Errorf("Uint of %d: %x, want %x", n, b, want)
		}
		got, ok := opt.Number(b)
		if n >= 1<<56 {
			if got != 0 || ok {
				t.Errorf("Number of %x: %d, %t", b, got, ok)
			}
			continue
		}
		if got != max(n, 0) || !ok {
			t.Errorf("Number of %x: %d, %t, want %d", b, got, ok, n)
		}
	}
	for b, want := range map[string]int64{"": 0, "\x00": 0, "\x00\x00": 0, "\x00\x01": 1, "\x00\x00\x00\x00\x00\x00\x00": 0, "\x00\x00\x00\x00\x00\x00\xff": 255} {
		if got, ok := opt.Number([]byte(b)); got != want || !ok {
			t.Errorf("Number of %x: %d, %t, want %d", b, got, ok, want)
		}
	}
	for _, b := range []string{"\x00\x00\x00\x00\x00\x00\x00\x00", "\x00\x00\x00\x00\x00\x00\x00\x01", "\xff\xff\xff\xff\xff\xff\xff\xff", strings.Repeat("\x00", 100)} {
		if got, ok := opt.Number([]byte(b)); got != 0 || ok {
			t.Errorf("Number of %x: %d, %t", b, got, ok)
		}
	}
	if got, ok := opt.Number(nil); got != 0 || !ok {
		t.Errorf("Number of nil: %d, %t", got, ok)
	}
}

// P8.1: odd numbers are critical, those below 0 too.
func TestCritical(t *testing.T) {
	for num, want := range map[int]bool{
		api.OptObserve: false, api.OptPath: true, api.OptFormat: false, api.OptQuery: true, api.OptAccept: true, api.OptBlock2: true, api.OptBlock1: true, api.OptSize1: false, api.OptLocPath: false,
		0: false, 1: true, 2: false, 65535: true, 65536: false, -1: true, -2: false, -3: true, math.MinInt: false, math.MinInt + 1: true, math.MaxInt: true,
	} {
		if opt.Critical(num) != want {
			t.Errorf("%d: %t", num, !want)
		}
	}
}
