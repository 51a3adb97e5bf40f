package tlv_test

import (
	"math"
	"runtime/debug"
	"slices"
	"strings"
	"testing"

	"outpost/api"
	"outpost/tlv"
)

type Tlv = api.Tlv

// kids are one of a kind with others in it.
func kids(kind, id int, ts ...Tlv) Tlv { return Tlv{Kind: kind, ID: id, Kids: ts} }

// val is one of a kind with a value.
func val(kind, id int, b string) Tlv { return Tlv{Kind: kind, ID: id, Val: []byte(b)} }

// same holds lists against each other, without the package's own Same.
func same(a, b []Tlv) bool {
	return slices.EqualFunc(a, b, func(x, y Tlv) bool {
		return x.Kind == y.Kind && x.ID == y.ID && string(x.Val) == string(y.Val) && same(x.Kids, y.Kids)
	})
}

// reads holds what Read is to answer.
func reads(t *testing.T, b string, want []Tlv, wantE api.Errno) {
	t.Helper()
	if ts, e := tlv.Read([]byte(b)); !same(ts, want) || e != wantE {
		t.Errorf("Read of %.60x (%d bytes): %.200v, %d, want %.200v, %d", b, len(b), ts, e, want, wantE)
	}
}

// both holds a right list and its bytes against each other.
func both(t *testing.T, want string, ts ...Tlv) {
	t.Helper()
	if !tlv.Right(ts) {
		t.Errorf("%.200v isn't right", ts)
	}
	if b, e := tlv.Write(ts); string(b) != want || e != api.OK {
		t.Errorf("Write of %.200v: %.60x, %d, want %.60x", ts, b, e, want)
	}
	reads(t, want, ts, api.OK)
}

// refused holds a list that isn't right.
func refused(t *testing.T, ts ...Tlv) {
	t.Helper()
	if tlv.Right(ts) {
		t.Errorf("%.200v is right", ts)
	}
	if b, e := tlv.Write(ts); len(b) != 0 || e != api.ErrArg {
		t.Errorf("Write of %.200v: %.60x, %d", ts, b, e)
	}
}

// P15.1, P15.2: the document's own examples, and lists of nothing.
func TestExamples(t *testing.T) {
	both(t, "\xc1\x01\x07", val(3, 1, "\x07"))
	both(t, "\x03\x00\xc1\x01\x07", kids(0, 0, val(3, 1, "\x07")))
	both(t, "")
	if b, e := tlv.Write(nil); len(b) != 0 || e != api.OK || !tlv.Right(nil) {
		t.Errorf("Write of nil: %x, %d", b, e)
	}
	if ts, e := tlv.Read(nil); len(ts) != 0 || e != api.OK {
		t.Errorf("Read of nil: %v, %d", ts, e)
	}
}

// P15.1, P15.2: each kind where it may stand.
func TestKinds(t *testing.T) {
	both(t, "\x00\x05", kids(0, 5))
	both(t, "\x80\x05", kids(2, 5))
	both(t, "\xc0\x05", val(3, 5, ""))
	both(t, "\x82\x06\x40\x07", kids(2, 6, val(1, 7, "")))
	both(t, "\x83\x06\x41\x00a", kids(2, 6, val(1, 0, "a")))
	both(t, "\x07\x01\x82\x06\x40\x07\xc1\x09b\xc0\x02", kids(0, 1, kids(2, 6, val(1, 7, "")), val(3, 9, "b")), val(3, 2, ""))
	both(t, "\x00\x01\x80\x01\xc0\x01\xc0\x01", kids(0, 1), kids(2, 1), val(3, 1, ""), val(3, 1, "")) // an ID may be there again
	empty := []Tlv{{Kind: 0, ID: 1, Val: []byte{}, Kids: []Tlv{}}, {Kind: 2, ID: 1, Val: []byte{}, Kids: []Tlv{}}, {Kind: 3, ID: 1, Val: []byte{}, Kids: []Tlv{}}}
	both(t, "\x00\x01\x80\x01\xc0\x01", empty...)
}

// P15.1, P15.2: IDs of up to 255 have one byte, lengths of up to 7 none, of up to 255 one.
func TestHeads(t *testing.T) {
	ids := map[int]string{0: "\x00", 1: "\x01", 127: "\x7f", 255: "\xff", 256: "\x01\x00", 300: "\x01\x2c", 32768: "\x80\x00", 65535: "\xff\xff"}
	sizes := map[int]string{0: "", 1: "", 6: "", 7: "", 8: "\x08", 9: "\x09", 255: "\xff", 256: "\x01\x00", 257: "\x01\x01", 65534: "\xff\xfe", 65535: "\xff\xff"}
	for id, idBytes := range ids {
		for size, sizeBytes := range sizes {
			first := byte(len(idBytes)-1)<<5 | byte(len(sizeBytes))<<3
			if size < 8 {
				first |= byte(size)
			}
			data := strings.Repeat("\xab", size)
			head := func(kind byte) string { return string([]byte{first | kind<<6}) + idBytes + sizeBytes }
			both(t, head(3)+data, val(3, id, data))
			both(t, head(3)+data+"\xc1\x09b", val(3, id, data), val(3, 9, "b"))
			if size < 60000 {
				inner := head(1) + data
				want, e := tlv.Write([]Tlv{val(3, 6, inner)})
				if e != api.OK {
					t.Fatal(e)
				}
				want[0] ^= 0x40 // kind 2 instead
				both(t, string(want), kids(2, 6, val(1, id, data)))
			}
		}
	}
}

// P15.1: lists that aren't right.
func TestWrongLists(t *testing.T) {
	good := val(3, 1, "a")
	for _, kind := range []int{-1, 4, 5, 256, 259, math.MaxInt, math.MinInt} {
		refused(t, Tlv{Kind: kind})
		refused(t, good, Tlv{Kind: kind, ID: 1})
		refused(t, kids(0, 1, Tlv{Kind: kind}))
		refused(t, kids(2, 1, Tlv{Kind: kind}))
	}
	for _, id := range []int{-1, 65536, 1 << 32, math.MaxInt, math.MinInt} {
		refused(t, kids(0, id))
		refused(t, kids(2, id))
		refused(t, val(3, id, "a"), good)
		refused(t, kids(2, 1, val(1, id, "")))
		refused(t, kids(0, 1, good, kids(2, 1, val(1, 0, ""), val(1, id, ""))))
	}
	// What stands where it may not.
	refused(t, val(1, 0, "a"))
	refused(t, good, val(1, 0, ""))
	refused(t, kids(0, 1, kids(0, 1)))
	refused(t, kids(0, 1, val(1, 1, "")))
	refused(t, kids(2, 1, kids(0, 1)))
	refused(t, kids(2, 1, kids(2, 1)))
	refused(t, kids(2, 1, good))
	refused(t, kids(0, 1, kids(2, 1, kids(2, 1))))
	refused(t, kids(0, 1, kids(2, 1, good)))
	// Kids where there are none, and a value where there are kids.
	refused(t, kids(3, 1, good))
	refused(t, kids(3, 1, val(1, 1, "")))
	refused(t, kids(2, 1, kids(1, 1, val(1, 1, ""))))
	refused(t, val(0, 1, "a"))
	refused(t, val(2, 1, "a"))
	refused(t, kids(0, 1, val(2, 1, "a")))
	refused(t, Tlv{Kind: 0, Val: []byte{0}, Kids: []Tlv{good}})
}

// filled are n of one kind, without a value.
func filled(kind, n int) []Tlv {
	ts := make([]Tlv, n)
	for i := range ts {
		ts[i].Kind = kind
	}
	return ts
}

// P15.1: 64 in all may be there, wherever they stand, and no more.
func TestHowMany(t *testing.T) {
	for _, list := range []func(n int) []Tlv{
		func(n int) []Tlv { return filled(3, n) },
		func(n int) []Tlv { return filled(0, n) },
		func(n int) []Tlv { return []Tlv{kids(0, 0, filled(3, n-1)...)} },
		func(n int) []Tlv { return []Tlv{kids(0, 0, kids(2, 0, filled(1, n-2)...))} },
		func(n int) []Tlv { return append([]Tlv{kids(2, 0, filled(1, 31)...)}, filled(2, n-32)...) },
		func(n int) []Tlv { return []Tlv{kids(0, 0, filled(3, 40)...), kids(0, 0, filled(2, n-42)...)} },
		func(n int) []Tlv { return append(filled(3, n-3), kids(0, 0, kids(2, 0, val(1, 0, "")))) },
	} {
		for _, n := range []int{42, 63, 64} {
			ts := list(n)
			b, e := tlv.Write(ts)
			if e != api.OK {
				t.Errorf("%d in all: %d", n, e)
			}
			both(t, string(b), ts...)
		}
		for _, n := range []int{65, 66, 128, 1000} {
			refused(t, list(n)...)
		}
	}
	refused(t, filled(3, 1<<20)...)
	if tlv.Right(slices.Repeat([]Tlv{kids(0, 0, slices.Repeat([]Tlv{kids(2, 0, filled(1, 1<<16)...)}, 1<<16)...)}, 1<<16)) {
		t.Error("2 to the power of 48 in all are right")
	}
}

// long is a list that is right but for how many bytes there are.
func long(t *testing.T, ts ...Tlv) {
	t.Helper()
	if !tlv.Right(ts) {
		t.Errorf("%.100v isn't right", ts)
	}
	if b, e := tlv.Write(ts); len(b) != 0 || e != api.ErrLong {
		t.Errorf("Write of %.100v: %d bytes, %d", ts, len(b), e)
	}
}

// fits is a list that may just be written.
func fits(t *testing.T, ts ...Tlv) {
	t.Helper()
	b, e := tlv.Write(ts)
	if e != api.OK {
		t.Errorf("Write of %.100v: %d", ts, e)
	}
	both(t, string(b), ts...)
}

// P15.1: a value of more than 65535 bytes, one's own or what its kids are as bytes; ErrArg is told ahead of that.
func TestLong(t *testing.T) {
	most, more, head := strings.Repeat("a", 65535), strings.Repeat("a", 65536), 4
	fits(t, val(3, 1, most))
	fits(t, val(3, 1, most), kids(0, 1), val(3, 300, most))
	long(t, val(3, 1, more))
	long(t, kids(0, 0), val(3, 1, more), val(3, 1, ""))
	fits(t, kids(2, 1, val(1, 1, most[head:])))
	long(t, kids(2, 1, val(1, 1, most[head-1:])))
	long(t, kids(2, 1, val(1, 256, most[head:])))
	long(t, kids(2, 1, val(1, 1, more)))
	fits(t, kids(0, 1, kids(2, 1, val(1, 1, most[2*head:]))))
	long(t, kids(0, 1, kids(2, 1, val(1, 1, most[2*head-1:]))))
	long(t, kids(0, 1, kids(2, 1, val(1, 1, most[head:]))))
	fits(t, kids(0, 1, val(3, 1, most[:30000]), val(3, 1, most[30000+2*head:])))
	long(t, kids(0, 1, val(3, 1, most[:30000]), val(3, 1, most[30000+2*head-1:])))
	long(t, val(3, 1, strings.Repeat("a", 1<<24)))
	refused(t, val(3, 1, more), val(1, 1, ""))
	refused(t, val(1, 1, more))
	refused(t, append(filled(3, 64), val(3, 1, more))...)
}

// P15.1, P15.2: an ID of two bytes and a length of one, two or three where fewer would do; the lowest three bits don't count then.
func TestMoreBytesThanNeedBe(t *testing.T) {
	for size := range 20 {
		data := strings.Repeat("x", size)
		for told, length := range []string{"", string([]byte{byte(size)}), string([]byte{0, byte(size)}), string([]byte{0, 0, byte(size)})} {
			for low := range byte(8) {
				if told == 0 && low != byte(size) {
					continue
				}
				first := 3<<6 | byte(told)<<3 | low
				reads(t, string([]byte{first, 9})+length+data, []Tlv{val(3, 9, data)}, api.OK)
				reads(t, string([]byte{first | 32, 0, 9})+length+data+"\xc0\x01", []Tlv{val(3, 9, data), val(3, 1, "")}, api.OK)
				reads(t, string([]byte{first | 32, 9, 0})+length+data, []Tlv{val(3, 9*256, data)}, api.OK)
			}
		}
	}
	reads(t, "\xb7\x00\x01\x00\x0a\x78\x00\x02\x00\x00\x03abcd", nil, api.ErrForm)
	reads(t, "\xb7\x00\x01\x00\x09\x78\x00\x02\x00\x00\x03abc", []Tlv{kids(2, 1, val(1, 2, "abc"))}, api.OK)
}

// P15.1, P15.2: a length of three bytes is there where fewer would do, and no longer; what is read can be written.
func TestLongestRead(t *testing.T) {
	for _, n := range []int{256, 65534, 65535} {
		data := strings.Repeat("y", n)
		length := string([]byte{0, byte(n >> 8), byte(n)})
		reads(t, "\xd8\x01"+length+data, []Tlv{val(3, 1, data)}, api.OK)
		reads(t, "\xd8\x01"+length+data[1:], nil, api.ErrForm)
	}
	for _, n := range []int{65536, 70000, 1<<24 - 1} {
		length := string([]byte{byte(n >> 16), byte(n >> 8), byte(n)})
		reads(t, "\xd8\x01"+length+strings.Repeat("y", n), nil, api.ErrForm)
		reads(t, "\x18\x01"+length+strings.Repeat("\xc0\x00", n), nil, api.ErrForm)
		reads(t, strings.Repeat("\xc0\x00", 64)+"\xd8\x01"+length+strings.Repeat("y", n), nil, api.ErrMany)
	}
}

// P15.1: bytes that end within one.
func TestCutBytes(t *testing.T) {
	for _, b := range []string{
		"\xc1\x01\x07", "\xe1\x01\x02a", "\xe8\x01\x2c\x0812345678", "\xd0\x01\x00\x03abc", "\xd8\x01\x00\x00\x03abc", "\xf8\x00\x01\x00\x00\x03abc",
		"\x03\x00\xc1\x01\x07", "\x83\x06\x41\x00a", "\x26\x01\x00\x84\x00\x42\x00ab", "\x18\x00\x00\x00\x03\xc1\x00a",
	} {
		if _, e := tlv.Read([]byte(b)); e != api.OK {
			t.Errorf("Read of %x: %d", b, e)
		}
		for n := 1; n < len(b); n++ {
			reads(t, b[:n], nil, api.ErrForm)
			reads(t, "\xc1\x01\x07"+b[:n], nil, api.ErrForm)
			// What stands behind an instance doesn't make up for what one in it lacks.
			reads(t, string([]byte{3 << 3, 0, 0, 0, byte(n)})+b, nil, api.ErrForm)
		}
	}
}

// P15.1: what stands where it may not.
func TestWhatMayNotStandThere(t *testing.T) {
	for _, b := range []string{"\x41\x01a", "\x40\x00", "\x02\x00\x00\x00", "\x02\x00\x40\x00", "\x82\x00\x00\x00", "\x82\x00\x80\x00", "\x82\x00\xc0\x00", "\x04\x00\x82\x00\x80\x00", "\x04\x00\x82\x00\xc0\x00", "\x04\x00\x82\x00\x00\x00"} {
		reads(t, b, nil, api.ErrForm)
		reads(t, "\xc0\x00"+b, nil, api.ErrForm)
		reads(t, b+"\xc0\x00", nil, api.ErrForm)
	}
}

// P15.1: one too many; of one item the kind and the head are looked at ahead of that, the value behind it.
func TestOneTooMany(t *testing.T) {
	full := strings.Repeat("\xc0\x00", 64)
	reads(t, full, filled(3, 64), api.OK)
	for more, want := range map[string]api.Errno{
		"\xc0\x00": api.ErrMany, "\x00\x00": api.ErrMany, "\x80\x00": api.ErrMany, "\xc5\x00": api.ErrMany, "\xc5\x00ab": api.ErrMany, "\xd8\x00\xff\xff\xff": api.ErrMany,
		"\x40\x00": api.ErrForm, "\x40": api.ErrForm, "\xc0": api.ErrForm, "\xe0\x00": api.ErrForm, "\xd8\x00\xff\xff": api.ErrForm, "\x02\x00\x40\x00": api.ErrMany,
		"\xc0\x00\x40\x00": api.ErrMany, "\xc0\x00\xc0": api.ErrMany,
	} {
		reads(t, full+more, nil, want)
		if more[0]>>6 == 0 { // in an instance there is no other one
			want = api.ErrForm
		}
		inner := full[:len(full)-2] + more
		reads(t, "\x08\x00"+string([]byte{byte(len(inner))})+inner, nil, want)
		reads(t, "\x08\x00"+string([]byte{byte(len(inner))})+inner+"\xc0\x00\x40\x00", nil, want)
	}
	// Kids count where they stand, ahead of what is behind the one that they are in.
	reads(t, "\x08\x00\x80"+full+"\x40\x00", nil, api.ErrMany)
	reads(t, full[2:]+"\x02\x00\xc0\x00\x40\x00", nil, api.ErrMany)
	reads(t, full[4:]+"\x02\x00\xc0\x00\x40\x00", nil, api.ErrForm)
	reads(t, full[2:]+"\x02\x00\x40\x00", nil, api.ErrForm)
	reads(t, "\x08\x00\x7e"+full[2:], []Tlv{kids(0, 0, filled(3, 63)...)}, api.OK)
	reads(t, "\x08\x00\x81"+full, nil, api.ErrForm) // its value goes beyond the end
	reads(t, strings.Repeat("\xc0\x00", 1<<20), nil, api.ErrMany)
}

// P15.1: the first one of a kind and an ID that stands in the list.
func TestFind(t *testing.T) {
	ts := []Tlv{val(3, 1, "a"), kids(2, 1, val(1, 7, "b")), val(3, 1, "c"), kids(0, 1, val(3, 2, "d"), kids(2, 9, val(1, 0, "e"))), val(3, 0, ""), val(7, -5, "f"), kids(3, 300, val(3, 8, ""))}
	for i, x := range ts {
		want := x
		if i == 2 {
			want = ts[0]
		}
		if got, ok := tlv.Find(ts, x.Kind, x.ID); !same([]Tlv{got}, []Tlv{want}) || !ok {
			t.Errorf("Find of %d, %d: %v, %t", x.Kind, x.ID, got, ok)
		}
	}
	for _, c := range [][2]int{{3, 2}, {1, 7}, {2, 9}, {3, 8}, {0, 0}, {2, 300}, {7, 5}, {-1, 1}, {math.MaxInt, math.MinInt}} {
		if got, ok := tlv.Find(ts, c[0], c[1]); ok || !same([]Tlv{got}, []Tlv{{}}) {
			t.Errorf("Find of %v: %v, %t", c, got, ok)
		}
	}
	if got, ok := tlv.Find(nil, 0, 0); ok || !same([]Tlv{got}, []Tlv{{}}) {
		t.Errorf("Find in nothing: %v, %t", got, ok)
	}
}

// P15.1: lists are the same if all that is in them is, in its order.
func TestSame(t *testing.T) {
	lists := [][]Tlv{
		nil, {{}}, {{}, {}}, {val(3, 1, "a")}, {val(3, 1, "b")}, {val(3, 1, "")}, {val(3, 1, "ab")}, {val(3, 2, "a")}, {val(2, 1, "a")}, {val(3, 1, "a"), val(3, 2, "b")}, {val(3, 2, "b"), val(3, 1, "a")},
		{val(3, 1, "a"), val(3, 2, "b"), {}}, {kids(3, 1, Tlv{})}, {kids(0, 1, val(3, 1, "a"))}, {kids(0, 1, val(3, 1, "b"))}, {kids(0, 1, val(3, 1, "a")), val(3, 1, "a")}, {kids(0, 1), val(3, 1, "a")},
		{kids(0, 1, kids(2, 2, val(1, 3, "")))}, {kids(0, 1, kids(2, 2, val(1, 4, "")))}, {kids(0, 1, kids(2, 2), val(1, 3, ""))}, {{Kind: -1, ID: -1}}, {{Kind: 0, ID: 1, Val: []byte("a"), Kids: []Tlv{{}}}},
		{kids(0, 1, Tlv{}), kids(0, 1)}, {kids(0, 1), kids(0, 1, Tlv{})},
	}
	for i, a := range lists {
		for k, b := range lists {
			if got := tlv.Same(a, b); got != (i == k) {
				t.Errorf("Same of %v, %v: %t", a, b, got)
			}
		}
	}
	if !tlv.Same(nil, []Tlv{}) || !tlv.Same([]Tlv{{Val: []byte{}, Kids: []Tlv{}}}, []Tlv{{}}) {
		t.Error("lists that are nil and empty aren't the same")
	}
}

// chain is a list with one in each, so deep, and at its end an ID.
func chain(depth, id int) []Tlv {
	ts := []Tlv{{ID: id}}
	for range depth {
		ts = []Tlv{{Kids: ts}}
	}
	return ts
}

// P15.1: every call ends of lists that lie as deep in each other as one likes.
func TestDeepLists(t *testing.T) {
	// Calls within calls would need more than that.
	defer debug.SetMaxStack(debug.SetMaxStack(1 << 20))
	a, b, other := chain(200000, 1), chain(200000, 1), chain(200000, 2)
	refused(t, a...)
	if !tlv.Same(a, b) || tlv.Same(a, other) || tlv.Same(a, a[0].Kids) {
		t.Error("Same of deep lists")
	}
	if got, ok := tlv.Find(a, 0, 0); !ok || !tlv.Same([]Tlv{got}, a) {
		t.Error("Find of a deep list")
	}
}
