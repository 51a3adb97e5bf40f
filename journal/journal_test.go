package journal_test

import (
	"bytes"
	"math"
	"math/rand"
	"slices"
	"testing"

	"outpost/api"
	"outpost/flash"
	"outpost/journal"
	"outpost/part"
)

func expect(t *testing.T, what string, got, want any) {
	t.Helper()
	if got != want {
		t.Errorf("%s: %v, want %v", what, got, want)
	}
}

// groups are two groups of so many sectors of so many bytes, one behind the other, with nothing else in the flash.
func groups(t *testing.T, size, first, second int) (*flash.Flash, *part.Part, *part.Part) {
	t.Helper()
	f := flash.New(first+second, size)
	a, e := part.New(f, 0, first)
	b, e2 := part.New(f, first, second)
	if e != api.OK || e2 != api.OK {
		t.Fatal(e, e2)
	}
	return f, a, b
}

// laid are two groups of 128 bytes that hold these bytes.
func laid(t *testing.T, first, second []byte) (*flash.Flash, *part.Part, *part.Part) {
	t.Helper()
	f, a, b := groups(t, 64, 2, 2)
	f.Load(slices.Concat(first, second))
	return f, a, b
}

func opened(t *testing.T, a, b *part.Part) *journal.Journal {
	t.Helper()
	j, e := journal.Open(a, b)
	if e != api.OK || j == nil {
		t.Fatalf("Open: %v, %d", j, e)
	}
	return j
}

// holds tells of a journal's values, a text by each key.
func holds(t *testing.T, what string, j *journal.Journal, want map[int]string) {
	t.Helper()
	var keys []int
	for key := -1; key <= 32; key++ {
		text, is := want[key]
		val, ok := j.Get(key)
		if ok != is || string(val) != text || !ok && val != nil {
			t.Errorf("%s: value of %d: %q, %v, want %q", what, key, val, ok, text)
		}
		if is {
			keys = append(keys, key)
		}
	}
	if !slices.Equal(j.Keys(), keys) {
		t.Errorf("%s: keys %v, want %v", what, j.Keys(), keys)
	}
}

// has tells of all bytes of a flash, from the first one on that isn't as it is to be.
func has(t *testing.T, what string, f *flash.Flash, want ...[]byte) {
	t.Helper()
	got, all := f.Image(), slices.Concat(want...)
	if len(got) != len(all) {
		t.Fatalf("%s: %d bytes, want %d", what, len(got), len(all))
	}
	for i := range got {
		if got[i] != all[i] {
			t.Errorf("%s: from byte %d on %v, want %v", what, i, got[i:min(i+20, len(got))], all[i:min(i+20, len(got))])
			return
		}
	}
}

// P5.1: the document's own examples.
func TestExamples(t *testing.T) {
	f, a, b := groups(t, 64, 2, 2)
	j := opened(t, a, b)
	expect(t, "epoch", j.Epoch(), uint32(1))
	expect(t, "room", j.Room(), 120)
	has(t, "made anew", f, []byte{0, 1, 0, 0, 0}, ones(251))
	expect(t, "Put", j.Put(3, []byte("ab")), api.OK)
	expect(t, "room", j.Room(), 111)
	sum := f.Image()[12:16]
	has(t, "a record", f, []byte{0, 1, 0, 0, 0, 255, 255, 255, 3, 2, 'a', 'b'}, sum, []byte{0}, ones(239))
	has(t, "its sum", f, group(128, 0, 1, put(3, 'a', 'b')), ones(128))
	holds(t, "behind Put", j, map[int]string{3: "ab"})
}

// P5.1, P5: values of all sizes, by all keys, and dropped keys are records one behind the other; of one key the last one counts.
func TestRecords(t *testing.T) {
	f := flash.New(10, 4096)
	a, _ := part.New(f, 0, 10)
	b, _ := part.New(flash.New(10, 4096), 0, 10)
	j := opened(t, a, b)
	var recs [][]byte
	want := map[int]string{}
	for size := range 251 {
		key, val := size%32, bytes.Repeat([]byte{byte(size)}, size)
		if size%37 == 36 {
			expect(t, "Drop", j.Drop(30), api.OK)
			recs = append(recs, drop(30))
			delete(want, 30)
			holds(t, "behind Drop", j, want)
			expect(t, "Put", j.Put(30, nil), api.OK)
			recs = append(recs, put(30))
			want[30] = ""
		}
		expect(t, "Put", j.Put(key, val), api.OK)
		recs = append(recs, put(key, val...))
		want[key] = string(val)
		holds(t, "behind Put", j, want)
	}
	all := group(40960, 0, 1, recs...)
	has(t, "records", f, all)
	expect(t, "room", j.Room(), 40960-8-len(slices.Concat(recs...)))
	k := opened(t, a, b)
	holds(t, "opened anew", k, want)
	expect(t, "room, opened anew", k.Room(), j.Room())
	expect(t, "epoch, opened anew", k.Epoch(), uint32(1))
}

// P5.1: errors, in their order; what is refused turns nothing.
func TestErrorsInOrder(t *testing.T) {
	f, a, b := groups(t, 256, 1, 1)
	j := opened(t, a, b)
	long := make([]byte, 251)
	expect(t, "Put that leaves no room", j.Put(1, long[:241]), api.OK)
	before, turned := f.Image(), f.Turned()
	for _, key := range []int{math.MinInt, -1, 32, 33, 254, 255, 256, 257, 1 << 32, math.MaxInt} {
		expect(t, "Put of a key that may not be", j.Put(key, nil), api.ErrArg)
		expect(t, "Put of it, too long", j.Put(key, long), api.ErrArg)
		expect(t, "Drop of it", j.Drop(key), api.ErrArg)
		val, ok := j.Get(key)
		if val != nil || ok {
			t.Errorf("Get of %d: %v", key, val)
		}
	}
	expect(t, "too long, full too", j.Put(2, long), api.ErrLong)
	expect(t, "far too long", j.Put(1, make([]byte, 70000)), api.ErrLong)
	expect(t, "full", j.Put(2, nil), api.ErrFull)
	expect(t, "full, by the same key", j.Put(1, long[:242]), api.ErrFull)
	expect(t, "full, as long as may be", j.Put(1, long[:250]), api.ErrFull)
	expect(t, "Drop of none", j.Drop(2), api.ErrNone)
	has(t, "nothing is turned", f, before)
	expect(t, "nothing is turned", f.Turned(), turned)
	f.Cut(0)
	expect(t, "the same value, though the power would go", j.Put(1, long[:241]), api.OK)
	expect(t, "the power goes within it", j.Put(1, long[:1]), api.ErrDown)
	expect(t, "down, key", j.Put(32, nil), api.ErrDown)
	expect(t, "down, long", j.Put(0, long), api.ErrDown)
	expect(t, "down, full", j.Put(2, nil), api.ErrDown)
	expect(t, "down, the same", j.Put(1, long[:241]), api.ErrDown)
	expect(t, "down, Drop", j.Drop(1), api.ErrDown)
	expect(t, "down, Drop of none", j.Drop(2), api.ErrDown)
	expect(t, "down, Drop of a key that may not be", j.Drop(-1), api.ErrDown)
}

// P5.1: Open's errors, in their order, nil beside them.
func TestOpensErrorsInOrder(t *testing.T) {
	bad := group(128, 0, 1, put(3, 'a'))
	bad[10] = 'b'
	f, a, b := laid(t, bad, ones(128))
	small, _ := part.New(flash.New(1, 31), 0, 1)
	off := flash.New(2, 16)
	smallOff, _ := part.New(off, 0, 1)
	off.Cut(0)
	off.Erase(0)
	for i, c := range []struct {
		a, b *part.Part
		want api.Errno
	}{
		{a, b, api.ErrBad}, {b, a, api.ErrBad}, {a, small, api.ErrSize}, {small, b, api.ErrSize}, {small, small, api.ErrSize},
		{small, smallOff, api.ErrDown}, {smallOff, small, api.ErrDown}, {a, smallOff, api.ErrDown}, {smallOff, b, api.ErrDown},
		{nil, b, api.ErrSize}, {a, nil, api.ErrSize}, {nil, nil, api.ErrSize}, {nil, smallOff, api.ErrDown}, {smallOff, nil, api.ErrDown},
	} {
		j, e := journal.Open(c.a, c.b)
		if j != nil || e != c.want {
			t.Errorf("case %d: %v, %d, want %d", i, j, e, c.want)
		}
	}
	has(t, "nothing is turned", f, bad, ones(128))
	expect(t, "nothing is turned", f.Turned(), 0)
	f.Cut(0)
	f.Erase(3)
	j, e := journal.Open(a, b)
	if j != nil || e != api.ErrDown {
		t.Errorf("down: %v, %d", j, e)
	}
	j, e = journal.Open(a, small)
	if j != nil || e != api.ErrDown {
		t.Errorf("down, small: %v, %d", j, e)
	}
}

// P5.1: groups of 32 bytes are enough, of 31 too few; both count as long as the smaller one.
func TestSizes(t *testing.T) {
	for _, c := range []struct{ size, first, second, want int }{
		{16, 1, 1, 0}, {16, 1, 2, 0}, {16, 2, 1, 0}, {31, 1, 1, 0}, {31, 1, 2, 0}, {32, 1, 1, 32}, {16, 2, 2, 32}, {16, 2, 3, 32}, {16, 5, 3, 48}, {4096, 1, 2, 4096},
	} {
		f, a, b := groups(t, c.size, c.first, c.second)
		j, e := journal.Open(a, b)
		switch {
		case c.want == 0 && (j != nil || e != api.ErrSize || f.Turned() != 0):
			t.Errorf("%v: %v, %d", c, j, e)
		case c.want > 0 && (e != api.OK || j.Room() != c.want-8 || j.Epoch() != 1):
			t.Errorf("%v: %d", c, e)
		}
	}
}

// P5.1: what lies in the greater group behind the smaller one's size isn't looked at, and is cleared by a move.
func TestTheGreaterGroup(t *testing.T) {
	f, a, b := groups(t, 32, 2, 1)
	junk := bytes.Repeat([]byte{7}, 32)
	f.Load(slices.Concat(group(32, 0, 9, put(1, 'a')), junk, ones(32)))
	j := opened(t, a, b)
	expect(t, "room", j.Room(), 16)
	expect(t, "epoch: it isn't torn", j.Epoch(), uint32(9))
	j.Put(1, []byte("bcdefghij")) // fills the room
	expect(t, "no room", j.Room(), 0)
	has(t, "the junk stays", f, group(32, 0, 9, put(1, 'a'), put(1, []byte("bcdefghij")...)), junk, ones(32))
	holds(t, "opened anew", opened(t, a, b), map[int]string{1: "bcdefghij"})
	j.Put(1, []byte("k"))
	expect(t, "moved into the smaller one", j.Epoch(), uint32(10))
	for range 2 {
		j.Put(1, nil)
		j.Put(1, []byte("k"))
	}
	expect(t, "moved into the greater one", j.Epoch(), uint32(11))
	has(t, "it is cleared", f, group(64, 0, 11, put(1), put(1, 'k')), group(32, 0, 10, put(1, 'k'), put(1), put(1, 'k')))

	// A record that reaches over the smaller one's size isn't one.
	f.Load(slices.Concat(group(64, 0, 9, put(1, 'a'), put(2, make([]byte, 10)...)), ones(32)))
	j = opened(t, a, b)
	holds(t, "cut off", j, map[int]string{1: "a"})
	expect(t, "it is torn", j.Epoch(), uint32(10))
	has(t, "moved", f, group(64, 0, 9, put(1, 'a'), put(2, make([]byte, 10)...)), group(32, 0, 10, put(1, 'a')))
}

// P5.1: the same value again turns nothing; an empty one isn't none.
func TestTheSameValue(t *testing.T) {
	f, a, b := groups(t, 64, 2, 2)
	j := opened(t, a, b)
	j.Put(1, []byte("ab"))
	turned := f.Turned()
	expect(t, "the same", j.Put(1, []byte("ab")), api.OK)
	expect(t, "nothing is turned", f.Turned(), turned)
	expect(t, "an empty one", j.Put(2, nil), api.OK)
	expect(t, "seven bytes are turned", f.Turned(), turned+7)
	expect(t, "the same empty one", j.Put(2, []byte{}), api.OK)
	expect(t, "the same empty one, opened anew", opened(t, a, b).Put(2, nil), api.OK)
	expect(t, "nothing is turned", f.Turned(), turned+7)
	holds(t, "values", j, map[int]string{1: "ab", 2: ""})
	expect(t, "one byte less", j.Put(1, []byte("a")), api.OK)
	expect(t, "it is dropped", j.Drop(1), api.OK)
	expect(t, "no more", j.Drop(1), api.ErrNone)
	expect(t, "again behind a Drop", j.Put(1, []byte("a")), api.OK)
	has(t, "records", f, group(128, 0, 1, put(1, 'a', 'b'), put(2), put(1, 'a'), drop(1), put(1, 'a')), ones(128))
}

// P5.1: a move writes what is to count, by rising keys, into the other group, which is cleared; the one ahead stays as it is.
func TestMoves(t *testing.T) {
	f, a, b := laid(t, ones(128), bytes.Repeat([]byte{5}, 128))
	j := opened(t, a, b)
	long := bytes.Repeat([]byte("x"), 70)
	for _, key := range []int{9, 31, 4, 0} {
		j.Put(key, []byte{byte(key)})
	}
	j.Drop(4)
	j.Put(9, []byte("nine"))
	first := group(128, 0, 1, put(9, 9), put(31, 31), put(4, 4), put(0, 0), drop(4), put(9, []byte("nine")...))
	has(t, "ahead", f, first, bytes.Repeat([]byte{5}, 128))
	room := j.Room()
	expect(t, "room", room, 128-8-4*8-7-11)
	f.Cut(128 + 11 + 8 + 8 + 77 + 5)
	expect(t, "Put that doesn't fit", j.Put(5, long), api.OK)
	f.Cut(-1)
	second := group(128, 0, 2, put(0, 0), put(5, long...), put(9, []byte("nine")...), put(31, 31))
	has(t, "moved", f, first, second)
	expect(t, "epoch", j.Epoch(), uint32(2))
	expect(t, "room", j.Room(), 128-8-8-77-11-8)
	want := map[int]string{0: "\x00", 5: string(long), 9: "nine", 31: "\x1f"}
	holds(t, "moved", j, want)
	holds(t, "opened anew", opened(t, a, b), want)
	expect(t, "wear", a.Wear()*10+b.Wear(), 11)

	j.Put(31, []byte("a"))
	j.Put(31, []byte("b"))
	expect(t, "room", j.Room(), 0)
	expect(t, "Drop that doesn't fit", j.Drop(5), api.OK)
	has(t, "moved back", f, group(128, 0, 3, put(0, 0), put(9, []byte("nine")...), put(31, 'b')), second[:112], put(31, 'a'), put(31, 'b'))
	delete(want, 5)
	want[31] = "b"
	holds(t, "moved back", j, want)
	holds(t, "opened anew", opened(t, a, b), want)
}

// P5.1: a record fits that ends where the group ends; one byte more is a move or, without room for all, ErrFull.
func TestRoom(t *testing.T) {
	for size := range 40 {
		f, a, b := groups(t, 16, 3, 3)
		j := opened(t, a, b)
		j.Put(0, []byte("abc"))
		e := j.Put(1, make([]byte, size))
		switch {
		case size <= 23 && (e != api.OK || j.Room() != 23-size || j.Epoch() != 1):
			t.Errorf("size %d: %d, room %d, epoch %d", size, e, j.Room(), j.Epoch())
		case size > 23 && (e != api.ErrFull || j.Room() != 30):
			t.Errorf("size %d: %d, room %d", size, e, j.Room())
		}
		if e != api.OK {
			e = j.Put(0, make([]byte, size))
			if want := size <= 33; (e == api.OK) != want || e != api.OK && e != api.ErrFull || want && j.Epoch() != 2 {
				t.Errorf("the same key, size %d: %d, epoch %d", size, e, j.Epoch())
			}
		}
		expect(t, "up", f.Down(), false)
	}
}

// P5.1: all keys at once, and a group that they fill.
func TestAllKeys(t *testing.T) {
	f, a, b := groups(t, 8+32*8, 1, 1)
	j := opened(t, a, b)
	var keys []int
	for key := 31; key >= 0; key-- {
		expect(t, "Put", j.Put(key, []byte{byte(key)}), api.OK)
		keys = append([]int{key}, keys...)
		if !slices.Equal(j.Keys(), keys) {
			t.Errorf("keys %v", j.Keys())
		}
	}
	expect(t, "room", j.Room(), 0)
	for key := range 32 {
		expect(t, "another value", j.Put(key, []byte{99}), api.OK)
		expect(t, "a longer one", j.Put(key, []byte{1, 2}), api.ErrFull)
	}
	expect(t, "epoch", j.Epoch(), uint32(33))
	var recs [][]byte
	for key := range 32 {
		recs = append(recs, put(key, 99))
	}
	recs[31] = put(31, 31)
	has(t, "all", f, group(264, 0, 33, append(recs[:31], put(31, 99))...), group(264, 0, 32, append(slices.Clone(recs[:31]), put(31, 31))...))
	for key := range 32 {
		expect(t, "Drop", j.Drop(key), api.OK)
	}
	if j.Keys() != nil && len(j.Keys()) > 0 {
		t.Error(j.Keys())
	}
	holds(t, "none, opened anew", opened(t, a, b), nil)
}

// P5.1: the whole group of the greater epoch counts, of the same the first; a mark that isn't 0 is none.
func TestTheGroupThatCounts(t *testing.T) {
	type half struct {
		mark  byte
		epoch uint32
	}
	for i, c := range []struct {
		a, b half
		want string
	}{
		{half{0, 1}, half{0, 2}, "b"}, {half{0, 2}, half{0, 1}, "a"}, {half{0, 5}, half{0, 5}, "a"}, {half{0, 0}, half{0, 0}, "a"},
		{half{0, 1}, half{255, 2}, "a"}, {half{255, 2}, half{0, 1}, "b"}, {half{1, 2}, half{0, 1}, "b"}, {half{0, 1}, half{254, 2}, "a"}, {half{128, 2}, half{0, 0}, "b"},
		{half{0, 255}, half{0, 256}, "b"}, {half{0, 1 << 24}, half{0, 0xFFFFFF}, "a"}, {half{0, 1 << 31}, half{0, 1<<31 - 1}, "a"}, {half{0, 1}, half{0, 1<<32 - 1}, "b"}, {half{0, 1<<32 - 1}, half{0, 1}, "a"},
		{half{1, 1}, half{255, 2}, ""}, {half{255, 255}, half{128, 0}, ""},
	} {
		first, second := group(128, c.a.mark, c.a.epoch, put(0, 'a')), group(128, c.b.mark, c.b.epoch, put(0, 'b'))
		f, a, b := laid(t, first, second)
		j := opened(t, a, b)
		epoch := c.a.epoch
		if c.want == "b" {
			epoch = c.b.epoch
		}
		if c.want == "" {
			epoch, first = 1, group(128, 0, 1)
			holds(t, "made anew", j, nil)
			expect(t, "made anew: turned", f.Turned(), 128+5)
		} else {
			holds(t, "which counts", j, map[int]string{0: c.want})
			expect(t, "turned", f.Turned(), 0)
		}
		if j.Epoch() != epoch || j.Room() != 120-len(j.Keys())*8 {
			t.Errorf("case %d: epoch %d, room %d", i, j.Epoch(), j.Room())
		}
		has(t, "bytes", f, first, second)
	}
}

// P5.1: bytes 5 to 7 of the head may be anything, and are left as they are.
func TestTheHeadsOtherBytes(t *testing.T) {
	first := group(128, 0, 1, put(0, 'a'))
	copy(first[5:], []byte{0, 77, 1})
	f, a, b := laid(t, first, ones(128))
	j := opened(t, a, b)
	expect(t, "Put", j.Put(1, nil), api.OK)
	want := group(128, 0, 1, put(0, 'a'), put(1))
	copy(want[5:], []byte{0, 77, 1})
	has(t, "left", f, want, ones(128))
}

// P5.1: records are read up to the first that isn't a whole one; a group that has something behind them is torn, and all is moved.
func TestWhatIsTorn(t *testing.T) {
	marked := func(r []byte, mark byte) []byte { return append(slices.Clone(r[:len(r)-1]), mark) }
	good := slices.Concat(put(7, 'a'), put(5, 'b'), drop(7), put(7, 'c'), put(5, 'd'), put(3, 'e'), drop(3))
	for i, tail := range [][]byte{
		{1}, {31}, {0}, {32}, {254}, {5, 2, 'x'}, {5, 254}, slices.Concat(ones(1), []byte{0}), append(ones(128-8-len(good)-1), 254),
		marked(put(5, 'x'), 255), marked(put(5, 'x'), 1), marked(put(5, 'x'), 128), marked(drop(5), 255), marked(put(5), 254),
		rec(32, 1, 'x'), rec(255, 1, 'x'), rec(254, 254), rec(5, 251, make([]byte, 20)...), rec(5, 252), rec(5, 253), rec(5, 255), rec(32, 254),
		slices.Concat(marked(put(5, 'x'), 255), put(5, 'y')), slices.Concat(rec(40, 1, 'x'), put(5, 'y')), slices.Concat(ones(1), put(5, 'y')),
		rec(5, 250, make([]byte, 40)...), // reaches over the group's end
	} {
		first := group(128, 0, 4, good, tail)
		f, a, b := laid(t, first, group(128, 0, 3, put(9, 'z')))
		j := opened(t, a, b)
		want := map[int]string{5: "d", 7: "c"}
		holds(t, "torn", j, want)
		if j.Epoch() != 5 || j.Room() != 120-16 {
			t.Errorf("case %d: epoch %d, room %d", i, j.Epoch(), j.Room())
		}
		has(t, "moved", f, first, group(128, 0, 5, put(5, 'd'), put(7, 'c')))
		expect(t, "turned", f.Turned(), 128+16+5)
		turned := f.Turned()
		k := opened(t, a, b)
		holds(t, "opened twice", k, want)
		expect(t, "opened twice: epoch", k.Epoch(), uint32(5))
		expect(t, "opened twice: turned", f.Turned(), turned)
	}
}

// P5.1: a record of 250 bytes is read; one of another size that may not be isn't, though it is all there.
func TestRecordsSizes(t *testing.T) {
	for _, c := range []struct {
		size, bytes int
		want        string
	}{
		{0, 0, "=x"}, {249, 249, "=x"}, {250, 250, "=x"}, {254, 0, "=x"},
		{251, 251, ""}, {251, 0, ""}, {252, 252, ""}, {252, 0, ""}, {253, 253, ""}, {253, 0, ""}, {254, 254, ""}, {255, 255, ""}, {255, 0, ""},
	} {
		f, a, b := groups(t, 1024, 1, 1)
		f.Load(group(1024, 0, 1, rec(1, byte(c.size), bytes.Repeat([]byte{7}, c.bytes)...), put(2, 'x')))
		j := opened(t, a, b)
		if got := kept(j)[2]; got != c.want || (f.Turned() > 0) != (c.want == "") {
			t.Errorf("%v: %q, %d turned", c, got, f.Turned())
		}
	}
}

// P5.1: a record that ends where the group ends is read; one that would end behind it isn't.
func TestRecordsAtTheEnd(t *testing.T) {
	for size := 106; size <= 116; size++ {
		b := group(256, 0, 1, put(1, make([]byte, size)...))[:128]
		f, x, y := laid(t, b, ones(128))
		j := opened(t, x, y)
		_, ok := j.Get(1)
		expect(t, "is read", ok, size <= 113)
		if ok {
			expect(t, "room", j.Room(), 113-size)
		}
		expect(t, "is torn", f.Turned() > 0, size > 113)
	}
	for left := range 8 { // so few bytes hold no record, or just a smallest one
		pad := put(1, make([]byte, 113-left)...)
		f, x, y := laid(t, group(200, 0, 1, pad, drop(1))[:128], ones(128))
		j := opened(t, x, y)
		_, ok := j.Get(1)
		expect(t, "isn't dropped", ok, left < 7)
		expect(t, "is torn", f.Turned() > 0, left > 0 && left < 7)
	}
}

// P5.1: every bit that is turned in a whole record's value or sum is told, in one that counts no more too; nothing is turned then.
func TestErrBad(t *testing.T) {
	recs := [][]byte{put(2, 'a', 'b'), drop(4), put(2), put(4, 'c'), put(31, make([]byte, 9)...), drop(31), put(2, 'd')}
	at := 8
	for _, r := range recs {
		for place := at + 2; place < at+len(r)-1; place++ {
			for bit := range 8 {
				for _, tail := range []byte{255, 3} { // torn as well
					b := group(128, 0, 7, append(slices.Clone(recs), []byte{tail})...)
					b[place] ^= 1 << bit
					f, x, y := laid(t, group(128, 0, 6, put(1, 'z')), b)
					j, e := journal.Open(x, y)
					if j != nil || e != api.ErrBad || f.Turned() != 0 {
						t.Fatalf("byte %d, bit %d: %v, %d", place, bit, j, e)
					}
				}
			}
		}
		b := group(128, 0, 7, recs...)
		b[at] ^= 1 // another key
		_, x, y := laid(t, b, ones(128))
		j, e := journal.Open(x, y)
		if j != nil || e != api.ErrBad {
			t.Errorf("another key at %d: %v, %d", at, j, e)
		}
		at += len(r)
	}
}

// P5.1: a wrong sum in the group that doesn't count, or in a record that isn't whole, or behind the last one, is nothing.
func TestSumsThatDontMatter(t *testing.T) {
	bad := put(1, 'a')
	bad[2] = 'b'
	notWhole := slices.Clone(bad)
	notWhole[len(bad)-1] = 255
	for i, c := range []struct {
		a, b []byte
		want string
	}{
		{group(128, 0, 2, put(1, 'x')), group(128, 0, 1, bad), "x"},
		{group(128, 0, 1, bad), group(128, 0, 2, put(1, 'x')), "x"},
		{group(128, 255, 3, bad), group(128, 0, 2, put(1, 'x')), "x"},
		{group(128, 0, 2, put(1, 'x'), notWhole), group(128, 255, 3), "x"},
		{group(128, 0, 2, put(1, 'x'), ones(1), bad), ones(128), "x"},
		{group(128, 0, 2, put(1, 'x'), notWhole, bad), ones(128), "x"},
	} {
		_, a, b := laid(t, c.a, c.b)
		j := opened(t, a, b)
		val, ok := j.Get(1)
		if !ok || string(val) != c.want {
			t.Errorf("case %d: %q, %v", i, val, ok)
		}
	}
}

// P5.1: behind the epoch 2^32 - 1 nothing is moved, and nothing turned; what fits is written, what has no room at all is ErrFull.
func TestTheLastEpoch(t *testing.T) {
	const last = 1<<32 - 1
	room := put(1, make([]byte, 100)...)
	first := group(128, 0, last, room)
	f, a, b := laid(t, first, ones(128))
	j := opened(t, a, b)
	expect(t, "epoch", j.Epoch(), uint32(last))
	expect(t, "doesn't fit", j.Put(1, make([]byte, 90)), api.ErrMany)
	expect(t, "doesn't fit, full too", j.Put(2, make([]byte, 7)), api.ErrFull)
	expect(t, "the same", j.Put(1, make([]byte, 100)), api.OK)
	expect(t, "nothing is turned", f.Turned(), 0)
	expect(t, "fits", j.Put(1, []byte("abcdef")), api.OK)
	expect(t, "Drop that doesn't fit", j.Drop(1), api.ErrMany)
	has(t, "as it was", f, group(128, 0, last, room, put(1, []byte("abcdef")...)), ones(128))
	holds(t, "as it was", j, map[int]string{1: "abcdef"})

	f, a, b = laid(t, ones(128), group(128, 0, last, put(1), []byte{1}))
	j, e := journal.Open(a, b)
	if j != nil || e != api.ErrMany || f.Turned() != 0 {
		t.Errorf("torn: %v, %d", j, e)
	}
	bad := put(2, 'a')
	bad[2] = 'b'
	_, a, b = laid(t, ones(128), group(128, 0, last, put(1), bad, []byte{1}))
	j, e = journal.Open(a, b)
	if j != nil || e != api.ErrBad {
		t.Errorf("torn, another sum too: %v, %d", j, e)
	}
	f, a, b = laid(t, ones(128), group(128, 0, last-1, put(1), []byte{1}))
	j = opened(t, a, b)
	expect(t, "the last move", j.Epoch(), uint32(last))
	has(t, "the last move", f, group(128, 0, last, put(1)), group(128, 0, last-1, put(1), []byte{1}))
}

// P5.1, P5.3: whatever is called, every call answers, and the groups' bytes are, as the model's; so it is of the journal that is opened anew.
func TestWhateverIsCalled(t *testing.T) {
	for seed := range 200 {
		r := rand.New(rand.NewSource(int64(seed)))
		size, first, second := 16+r.Intn(30), 2+r.Intn(3), 2+r.Intn(3)
		f, a, b := groups(t, size, first, second)
		j, m := opened(t, a, b), newModel(size*first, size*second)
		for step := range 80 {
			key, val := r.Intn(6)-1, make([]byte, r.Intn(size))
			r.Read(val)
			if r.Intn(10) == 0 {
				key = r.Intn(40) - 4
			}
			if r.Intn(10) == 0 {
				val = make([]byte, r.Intn(300))
			}
			got, want := api.OK, api.OK
			switch r.Intn(5) {
			case 0:
				got, want = j.Drop(key), m.drop(key)
			case 1:
				turned := f.Turned()
				j = opened(t, a, b)
				expect(t, "opened anew: turned", f.Turned(), turned)
			default:
				got, want = j.Put(key, val), m.put(key, val)
			}
			if got != want || j.Epoch() != m.epochs[m.counts] || j.Room() != m.room() || !slices.Equal(j.Keys(), m.keys()) || !bytes.Equal(f.Image(), m.image()) {
				t.Fatalf("seed %d, step %d: %d, want %d; epoch %d, room %d, keys %v: %v, want %v", seed, step, got, want, j.Epoch(), j.Room(), j.Keys(), f.Image(), m.image())
			}
			for key := range 32 {
				got, is := j.Get(key)
				want, ok := m.get(key)
				if is != ok || !bytes.Equal(got, want) {
					t.Fatalf("seed %d, step %d: value of %d: %v, want %v", seed, step, key, got, want)
				}
			}
		}
	}
}

// P2: two journals with which the same is done answer the same, and one has nothing of the other.
func TestJournalsAreTheirOwn(t *testing.T) {
	var images [][]byte
	for range 20 { // a map's order is another one each time
		f, a, b := groups(t, 64, 5, 5)
		j := opened(t, a, b)
		for i := range 60 {
			j.Put(i*7%32, []byte{byte(i)})
		}
		images = append(images, f.Image())
		expect(t, "the same", bytes.Equal(images[0], images[len(images)-1]), true)
	}
	f, a, b := groups(t, 64, 2, 2)
	g, c, d := groups(t, 64, 2, 2)
	j, k := opened(t, a, b), opened(t, c, d)
	j.Put(1, []byte("a"))
	holds(t, "one", j, map[int]string{1: "a"})
	holds(t, "another", k, nil)
	has(t, "another", g, group(128, 0, 1), ones(128))
	expect(t, "the first one's flash", f.Turned(), 128+5+8)
}

// P5.1: the groups may lie in two flashes; either's power is the journal's.
func TestTwoFlashes(t *testing.T) {
	for i := range 2 {
		fs := [2]*flash.Flash{flash.New(1, 64), flash.New(1, 64)}
		a, _ := part.New(fs[0], 0, 1)
		b, _ := part.New(fs[1], 0, 1)
		j := opened(t, a, b)
		for n := range 20 {
			expect(t, "Put", j.Put(n%2, []byte{byte(n)}), api.OK)
		}
		fs[i].Cut(0)
		fs[i].Program(0, []byte{0})
		expect(t, "Put while one is down", j.Put(0, nil), api.ErrDown)
		expect(t, "Drop while one is down", j.Drop(0), api.ErrDown)
		_, e := journal.Open(a, b)
		expect(t, "Open while one is down", e, api.ErrDown)
		fs[i].Restore()
		holds(t, "opened anew", opened(t, a, b), map[int]string{0: "\x12", 1: "\x13"})
	}
}

// P5.4: answers are new memory, spare room too; what is handed in may be written over.
func TestMemory(t *testing.T) {
	f, a, b := groups(t, 64, 2, 2)
	j := opened(t, a, b)
	room := []byte("xabcy")
	j.Put(1, room[1:4])
	j.Put(2, []byte("two"))
	j.Put(4, nil)
	expect(t, "handed in", string(room), "xabcy")
	clear(room)
	want := map[int]string{1: "abc", 2: "two", 4: ""}
	before := f.Image()
	for _, k := range []*journal.Journal{j, opened(t, a, b)} {
		holds(t, "written over", k, want)
		for key := range 5 {
			val, _ := k.Get(key)
			for i := range val[:cap(val)] {
				val[:cap(val)][i] = 9
			}
		}
		keys := k.Keys()
		for i := range keys[:cap(keys)] {
			keys[:cap(keys)][i] = 9
		}
		holds(t, "answers written over", k, want)
		has(t, "the flash", f, before)
	}
	k := opened(t, a, b)
	long := bytes.Repeat([]byte("l"), 80)
	k.Put(3, long) // a move writes what was read and what was put
	clear(long)
	want[3] = string(bytes.Repeat([]byte("l"), 80))
	holds(t, "moved", k, want)
	holds(t, "moved, opened anew", opened(t, a, b), want)
}

// P1: odd groups, the same one twice or two that lie over each other, end and don't panic; one that Open didn't make neither.
func TestOddGroups(t *testing.T) {
	f := flash.New(4, 32)
	first, _ := part.New(f, 0, 2)
	second, _ := part.New(f, 1, 2)
	for _, c := range [][2]*part.Part{{first, first}, {first, second}, {second, first}} {
		j, e := journal.Open(c[0], c[1])
		if e != api.OK {
			continue
		}
		for n := range 50 {
			j.Put(n%3, make([]byte, n%20))
			j.Drop(n % 5)
		}
		j.Keys()
		journal.Open(c[0], c[1])
	}
	j := new(journal.Journal)
	val, ok := j.Get(0)
	if val != nil || ok || len(j.Keys()) != 0 || j.Epoch() != 0 || j.Room() != 0 || j.Put(0, nil) == api.OK || j.Drop(0) == api.OK {
		t.Error("something is there")
	}
	f.Program(8, make([]byte, 8)) // what isn't the journal's own may stand in its way, but doesn't panic
	j, e := journal.Open(new(part.Part), new(part.Part))
	if j != nil || e == api.OK {
		t.Errorf("parts that were never made: %v, %d", j, e)
	}
}
