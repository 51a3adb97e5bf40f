package plain_test

import (
	"math"
	"slices"
	"strings"
	"testing"

	"outpost/api"
	"outpost/plain"
)

type Val = api.Val

// same holds values against each other: a list that is nil and one that is empty are the same.
func same(a, b Val) bool {
	return a.Kind == b.Kind && a.N == b.N && a.S == b.S && slices.Equal(a.B, b.B) && a.Obj == b.Obj && a.Inst == b.Inst
}

// both holds a right value and its text against each other.
func both(t *testing.T, v Val, text string) {
	t.Helper()
	if !plain.Right(v) {
		t.Errorf("%v isn't right", v)
	}
	if s, e := plain.Write(v); s != text || e != api.OK {
		t.Errorf("Write of %v: %q, %d, want %q", v, s, e, text)
	}
	reads(t, v.Kind, text, v, api.OK)
}

func reads(t *testing.T, kind int, text string, want Val, wantE api.Errno) {
	t.Helper()
	if v, e := plain.Read(kind, text); !same(v, want) || e != wantE {
		t.Errorf("Read of kind %d, %.60q (%d bytes): %v, %d, want %v, %d", kind, text, len(text), v, e, want, wantE)
	}
}

// refused holds a value that isn't right.
func refused(t *testing.T, v Val, want api.Errno) {
	t.Helper()
	if plain.Right(v) {
		t.Errorf("%v is right", v)
	}
	if s, e := plain.Write(v); s != "" || e != want {
		t.Errorf("Write of %v: %q, %d, want %d", v, s, e, want)
	}
}

// P13.1, P13.2: the document's own examples.
func TestExamples(t *testing.T) {
	both(t, Val{Kind: api.KInt, N: -5}, "-5")
	both(t, Val{Kind: api.KBytes, B: []byte{1, 2}}, "AQI=")
	both(t, Val{Kind: api.KLink, Obj: 5}, "5:0")
	reads(t, api.KText, "a\n", Val{}, api.ErrForm)
	refused(t, Val{Kind: api.KText, S: "a\n"}, api.ErrArg)
	if n, ok := plain.Runes("a\n"); n != 0 || ok {
		t.Errorf("Runes: %d, %t", n, ok)
	}
}

// P13.1, P13.2: each kind's values, the first and the last ones too.
func TestRightValues(t *testing.T) {
	for _, kind := range []int{api.KInt, api.KTime} {
		for n, text := range map[int64]string{0: "0", 1: "1", -1: "-1", 9: "9", 10: "10", -10: "-10", 100: "100", 1 << 40: "1099511627776", math.MaxInt64: "9223372036854775807", math.MinInt64: "-9223372036854775808", math.MinInt64 + 1: "-9223372036854775807"} {
			both(t, Val{Kind: kind, N: n}, text)
		}
	}
	both(t, Val{Kind: api.KBool}, "0")
	both(t, Val{Kind: api.KBool, N: 1}, "1")
	for _, s := range []string{"", "a", " ", "~", "0", "é€", "\u0080", "\u009f", "\u00a0", "\ufffd", "\ufffe", "\ufeff", "\ud7ff\ue000", "\U0010ffff", "a\"\\", strings.Repeat("a", 200), strings.Repeat("é", 100), strings.Repeat("\U0001F600", 50)} {
		both(t, Val{Kind: api.KText, S: s}, s)
	}
	for text, b := range map[string]string{"": "", "AA==": "\x00", "AAA=": "\x00\x00", "AAAA": "\x00\x00\x00", "/w==": "\xff", "//8=": "\xff\xff", "////": "\xff\xff\xff", "++++": "\xfb\xef\xbe", "+w==": "\xfb", "Zg==": "f", "Zm8=": "fo", "Zm9v": "foo", "Zm9vYg==": "foob", "Zm9vYmE=": "fooba", "Zm9vYmFy": "foobar", "ABCDEFGHIJKLMNOPQRSTUVWXYZabcdefghijklmnopqrstuvwxyz0123456789+/": "\x00\x10\x83\x10\x51\x87\x20\x92\x8b\x30\xd3\x8f\x41\x14\x93\x51\x55\x97\x61\x96\x9b\x71\xd7\x9f\x82\x18\xa3\x92\x59\xa7\xa2\x9a\xab\xb2\xdb\xaf\xc3\x1c\xb3\xd3\x5d\xb7\xe3\x9e\xbb\xf3\xdf\xbf", strings.Repeat("AAAA", 66) + "AAA=": strings.Repeat("\x00", 200)} {
		both(t, Val{Kind: api.KBytes, B: []byte(b)}, text)
	}
	for text, v := range map[string]Val{"0:0": {}, "0:1": {Inst: 1}, "1:0": {Obj: 1}, "3:14": {Obj: 3, Inst: 14}, "65535:65535": {Obj: 65535, Inst: 65535}, "65535:0": {Obj: 65535}, "10:65534": {Obj: 10, Inst: 65534}} {
		v.Kind = api.KLink
		both(t, v, text)
	}
}

// P13.1: what a kind doesn't have is its zero value; an empty list is one.
func TestWhatAKindDoesNotHave(t *testing.T) {
	right := map[int]Val{api.KInt: {N: 7}, api.KBool: {N: 1}, api.KText: {S: "x"}, api.KBytes: {B: []byte{1}}, api.KTime: {N: 7}, api.KLink: {Obj: 1, Inst: 2}}
	texts := map[int]string{api.KInt: "7", api.KBool: "1", api.KText: "x", api.KBytes: "AQ==", api.KTime: "7", api.KLink: "1:2"}
	for kind, v := range right {
		v.Kind = kind
		both(t, v, texts[kind])
		has := func(kinds ...int) bool { return slices.Contains(kinds, kind) }
		if !has(api.KBytes) {
			other := v
			other.B = []byte{}
			both(t, other, texts[kind])
			other.B = []byte{0}
			refused(t, other, api.ErrArg)
		}
		if !has(api.KInt, api.KBool, api.KTime) {
			other := v
			other.N = 1
			refused(t, other, api.ErrArg)
			other.N = math.MinInt64
			refused(t, other, api.ErrArg)
		}
		if !has(api.KText) {
			other := v
			other.S = "x"
			refused(t, other, api.ErrArg)
		}
		if !has(api.KLink) {
			other := v
			other.Obj = 1
			refused(t, other, api.ErrArg)
			other = v
			other.Inst = -1
			refused(t, other, api.ErrArg)
		}
		for _, none := range []int{0, 7, -1, math.MaxInt, math.MinInt} {
			v.Kind = none
			refused(t, v, api.ErrKind)
		}
	}
}

// P13.1: values that aren't right; ErrKind is told ahead of that.
func TestWrongValues(t *testing.T) {
	for _, n := range []int64{2, -1, 3, math.MaxInt64, math.MinInt64} {
		refused(t, Val{Kind: api.KBool, N: n}, api.ErrArg)
	}
	for _, s := range []string{"\x00", "\x1f", "a\tb", "\x7f", "\x80", "\xff", "a\xc3", "\xed\xa0\x80", strings.Repeat("a", 201), strings.Repeat("é", 101), strings.Repeat("a", 199) + "é", strings.Repeat("\xff", 1<<20)} {
		refused(t, Val{Kind: api.KText, S: s}, api.ErrArg)
	}
	refused(t, Val{Kind: api.KBytes, B: make([]byte, 201)}, api.ErrArg)
	refused(t, Val{Kind: api.KBytes, B: make([]byte, 1<<20)}, api.ErrArg)
	for _, n := range []int{-1, 65536, 1 << 32, math.MaxInt, math.MinInt} {
		refused(t, Val{Kind: api.KLink, Obj: n}, api.ErrArg)
		refused(t, Val{Kind: api.KLink, Inst: n}, api.ErrArg)
	}
	refused(t, Val{}, api.ErrKind)
	refused(t, Val{Kind: 7, N: 1, S: "\xff", B: make([]byte, 300), Obj: -1}, api.ErrKind)
}

// P13.1: texts that aren't a number's, a truth's or a link's.
func TestWrongTexts(t *testing.T) {
	numbers := []string{"", "-", "+", "-0", "+0", "+1", "00", "01", "-01", "--1", " 1", "1 ", "1\n", "1.0", "1e3", "0x1", "1_000", "a", "1a", "\x00", "\xff", "١", "１", "−1", "9223372036854775808", "-9223372036854775809", "18446744073709551615", "10000000000000000000", "-10000000000000000000", "99999999999999999999", "00000000000000000000", "-00000000000000000001", strings.Repeat("9", 1<<20), strings.Repeat("0", 1<<20) + "1"}
	for _, s := range numbers {
		reads(t, api.KInt, s, Val{}, api.ErrForm)
		reads(t, api.KTime, s, Val{}, api.ErrForm)
		reads(t, api.KLink, s+":1", Val{}, api.ErrForm)
		reads(t, api.KLink, "1:"+s, Val{}, api.ErrForm)
	}
	for _, s := range []string{"", "2", "-1", "-0", "00", "01", "10", "11", "+1", " 0", "0 ", "true", "false", "\x00", "\x01", "１", strings.Repeat("0", 1<<20)} {
		reads(t, api.KBool, s, Val{}, api.ErrForm)
	}
	for _, s := range []string{"", ":", "1", "1:", ":1", "::", "1::2", "1:2:", ":1:2", "1:2:3", "1;2", "1,2", "-1:0", "0:-1", "65536:0", "0:65536", "0:9223372036854775807", "4294967296:0", "1: 2", "1 :2", "1/2", strings.Repeat("1", 1<<20), strings.Repeat(":", 1<<20), "1:" + strings.Repeat("0", 1<<20)} {
		reads(t, api.KLink, s, Val{}, api.ErrForm)
	}
	for _, kind := range []int{0, 7, -1, 9, math.MaxInt, math.MinInt} {
		for _, s := range []string{"", "0", "AA==", "1:1", "\xff", strings.Repeat("a", 300)} {
			reads(t, kind, s, Val{}, api.ErrKind)
		}
	}
}

// P13.1: of a text ErrLong is told ahead of ErrForm; its bytes count, not its signs.
func TestLongTexts(t *testing.T) {
	for _, s := range []string{strings.Repeat("a", 201), strings.Repeat("\xff", 201), strings.Repeat("a", 200) + "\n", strings.Repeat("é", 101), strings.Repeat("€", 67), strings.Repeat("a", 1<<20)} {
		reads(t, api.KText, s, Val{}, api.ErrLong)
	}
	for _, s := range []string{strings.Repeat("\xff", 200), strings.Repeat("a", 199) + "\n", "\x7f" + strings.Repeat("é", 99), strings.Repeat("a", 199) + "\xc3"} {
		reads(t, api.KText, s, Val{}, api.ErrForm)
	}
}

// P13.1: of bytes ErrForm is told ahead of ErrLong.
func TestLongBytes(t *testing.T) {
	for _, s := range []string{strings.Repeat("AAAA", 67), strings.Repeat("////", 67) + "/w==", strings.Repeat("AAAA", 67) + "AAA=", strings.Repeat("AAAA", 1<<18)} {
		reads(t, api.KBytes, s, Val{}, api.ErrLong)
	}
	for _, end := range []string{"A", "AA", "AAA", "A===", "====", "AB==", "AAB=", "AA=A", "=AAA", "AAA-", "AAA\n", "AAé", "AA==\n", "AA==AAAA", "AA======"} {
		for _, ahead := range []int{0, 1, 65, 66, 67, 68, 1 << 16} {
			reads(t, api.KBytes, strings.Repeat("AAAA", ahead)+end, Val{}, api.ErrForm)
		}
	}
	reads(t, api.KBytes, strings.Repeat("=", 1<<20), Val{}, api.ErrForm)
	reads(t, api.KBytes, strings.Repeat("\xff", 1<<20), Val{}, api.ErrForm)
	reads(t, api.KBytes, strings.Repeat("AAAA", 66)+"/w==", Val{Kind: api.KBytes, B: append(make([]byte, 198), 255)}, api.OK)
}

// P13.1: signs are counted, of a text of any length.
func TestRunes(t *testing.T) {
	for s, want := range map[string]int{"": 0, "a": 1, "aé€\U0001F600": 4, "é": 1, "e\u0301": 2, " ~": 2, "\ufffd": 1, "\u0080\u009f": 2, strings.Repeat("a", 201): 201, strings.Repeat("€", 100000): 100000} {
		if n, ok := plain.Runes(s); n != want || !ok {
			t.Errorf("Runes of %.20q: %d, %t, want %d", s, n, ok, want)
		}
	}
	for _, s := range []string{"\n", "a\x00", "a\x1fb", "\x7f", "é\x7f", "\xc3", "a\xff", "\xff\ufffd", strings.Repeat("a", 100000) + "\x80", strings.Repeat("a", 100000) + "\t"} {
		if n, ok := plain.Runes(s); n != 0 || ok {
			t.Errorf("Runes of %.20q: %d, %t", s, n, ok)
		}
	}
}

// P13.3: what is handed in stays, behind its length too, and may be written over; answers are nobody else's, spare room too.
func TestMemory(t *testing.T) {
	for n := range 9 {
		row := []byte("\x01\x02\x03\x04\x05\x06\x07\x08\x09spare room")
		before := slices.Clone(row)
		v := Val{Kind: api.KBytes, B: row[:n]}
		s, e := plain.Write(v)
		if !plain.Right(v) || e != api.OK || !slices.Equal(row, before) {
			t.Errorf("%d bytes: %d, turned to %q", n, e, row)
		}
		clear(row)
		reads(t, api.KBytes, s, Val{Kind: api.KBytes, B: before[:n]}, api.OK)
		a, _ := plain.Read(api.KBytes, s)
		b, _ := plain.Read(api.KBytes, s)
		for i := range a.B[:cap(a.B)] {
			a.B[:cap(a.B)][i] = 255
		}
		_ = append(a.B, "more"...)
		if !slices.Equal(b.B, before[:n]) {
			t.Errorf("%d bytes: two answers share memory", n)
		}
		reads(t, api.KBytes, s, Val{Kind: api.KBytes, B: before[:n]}, api.OK)
	}
}
