package plain_test

import (
	"encoding/base64"
	"math/big"
	"math/rand"
	"regexp"
	"strings"
	"testing"

	"outpost/api"
	"outpost/plain"
)

// texts goes through all texts of up to so many of some signs.
func texts(signs []string, most int, tell func(string)) {
	tell("")
	if most == 0 {
		return
	}
	for _, s := range signs {
		texts(signs, most-1, func(rest string) { tell(s + rest) })
	}
}

var (
	aNumber = regexp.MustCompile(`^(0|-?[1-9][0-9]*)$`)
	aTruth  = regexp.MustCompile(`^[01]$`)
	aLink   = regexp.MustCompile(`^(0|[1-9][0-9]{0,4}):(0|[1-9][0-9]{0,4})$`)
	aBase64 = regexp.MustCompile(`^([A-Za-z0-9+/]{4})*([A-Za-z0-9+/]{2}==|[A-Za-z0-9+/]{3}=)?$`)
)

// modelBytes are the bytes of base 64, by the language's own reader, which takes ends of lines too.
func modelBytes(s string) ([]byte, api.Errno) {
	b, err := base64.StdEncoding.Strict().DecodeString(s)
	switch {
	case err != nil || !aBase64.MatchString(s):
		return nil, api.ErrForm
	case len(b) > 200:
		return nil, api.ErrLong
	}
	return b, api.OK
}

// back holds that what is read is right, and is written as the same text.
func back(t *testing.T, kind int, s string) bool {
	t.Helper()
	v, e := plain.Read(kind, s)
	if e != api.OK {
		if !same(v, Val{}) {
			t.Errorf("Read of kind %d, %q: %v beside %d", kind, s, v, e)
		}
		return false
	}
	if again, e := plain.Write(v); v.Kind != kind || !plain.Right(v) || again != s || e != api.OK {
		t.Errorf("Read of kind %d, %q: %v, written as %q, %d", kind, s, v, again, e)
	}
	return true
}

// P13.1, P13.2: all texts of a few signs, of the kinds that are made of digits.
func TestAllShortTexts(t *testing.T) {
	texts([]string{"0", "1", "9", "6", "-", "+", ":", " ", "_", "\n", "٣"}, 5, func(s string) {
		for _, kind := range []int{api.KInt, api.KTime} {
			if back(t, kind, s) != aNumber.MatchString(s) {
				t.Errorf("%q as a number", s)
			}
		}
		if back(t, api.KBool, s) != aTruth.MatchString(s) {
			t.Errorf("%q as a truth", s)
		}
		if back(t, api.KLink, s) != aLink.MatchString(s) {
			t.Errorf("%q as a link", s)
		}
	})
}

// P13.1, P13.2: numbers around the bounds of an int64, and of a link.
func TestBounds(t *testing.T) {
	for _, bound := range []string{"-9223372036854775808", "9223372036854775807", "-18446744073709551616", "18446744073709551615", "0", "65535", "4294967295"} {
		n, _ := new(big.Int).SetString(bound, 10)
		for d := int64(-300); d <= 300; d++ {
			at := new(big.Int).Add(n, big.NewInt(d))
			s := at.String()
			if back(t, api.KInt, s) != at.IsInt64() {
				t.Errorf("%s as a number", s)
			}
			isLink := at.Sign() >= 0 && at.Cmp(big.NewInt(65535)) <= 0
			if back(t, api.KLink, s+":0") != isLink || back(t, api.KLink, "0:"+s) != isLink {
				t.Errorf("%s in a link", s)
			}
			if v, _ := plain.Read(api.KInt, s); at.IsInt64() && v.N != at.Int64() {
				t.Errorf("%s is read as %d", s, v.N)
			}
		}
	}
}

// P13.1, P13.2: base 64, all of four signs' ends, and texts of some signs, against the language's own.
func TestBase64AgainstAModel(t *testing.T) {
	signs := strings.Split("ABCDEFGHIJKLMNOPQRSTUVWXYZabcdefghijklmnopqrstuvwxyz0123456789+/=-_\n\r é\x00\xff", "")
	holds := func(s string) {
		want, wantE := modelBytes(s)
		reads(t, api.KBytes, s, valueOf(want, wantE), wantE)
		back(t, api.KBytes, s)
	}
	for _, ahead := range []string{"", "Zm9v", strings.Repeat("Zm9v", 66), strings.Repeat("Zm9v", 67)} {
		texts(signs, 2, func(s string) {
			for _, end := range []string{"", "=", "==", "A", "A=", "AA", "AAA="} {
				holds(ahead + s + end)
				holds(ahead + "b" + s + end)
			}
		})
	}
	texts([]string{"A", "B", "/", "=", "\n"}, 7, holds)
}

func valueOf(b []byte, e api.Errno) Val {
	if e != api.OK {
		return Val{}
	}
	return Val{Kind: api.KBytes, B: b}
}

// P13.1, P13.2: bytes of all lengths.
func TestBytesOfAllLengths(t *testing.T) {
	r := rand.New(rand.NewSource(64))
	for n := range 203 {
		for range 20 {
			b := make([]byte, n)
			r.Read(b)
			text := base64.StdEncoding.EncodeToString(b)
			if n > 200 {
				refused(t, Val{Kind: api.KBytes, B: b}, api.ErrArg)
				reads(t, api.KBytes, text, Val{}, api.ErrLong)
				continue
			}
			both(t, Val{Kind: api.KBytes, B: b}, text)
		}
	}
}

// signsOf is how many signs a plain text has, by the words of RFC 3629, byte by byte.
func signsOf(s string) (int, bool) {
	n := 0
	for len(s) > 0 {
		size, first := 0, 0
		switch b := s[0]; {
		case b < 0x20 || b == 0x7f:
			return 0, false
		case b < 0x80:
			size, first = 1, int(b)
		case b < 0xc0:
			return 0, false
		case b < 0xe0:
			size, first = 2, int(b&31)
		case b < 0xf0:
			size, first = 3, int(b&15)
		case b < 0xf8:
			size, first = 4, int(b&7)
		default:
			return 0, false
		}
		if len(s) < size {
			return 0, false
		}
		for i := 1; i < size; i++ {
			if s[i]&0xc0 != 0x80 {
				return 0, false
			}
			first = first<<6 | int(s[i]&63)
		}
		least := []int{0, 0, 0x80, 0x800, 0x10000}[size]
		if first < least || first > 0x10ffff || first >= 0xd800 && first < 0xe000 {
			return 0, false
		}
		n++
		s = s[size:]
	}
	return n, true
}

// counts holds Runes, and what hangs on it, against the model.
func counts(t *testing.T, s string) {
	t.Helper()
	want, plainly := signsOf(s)
	if n, ok := plain.Runes(s); n != want || ok != plainly {
		t.Fatalf("Runes of %x: %d, %t, want %d, %t", s, n, ok, want, plainly)
	}
}

// P13.1: all texts of one and of two bytes, of three and of four whose bytes lie at UTF-8's bounds, and each sign in as many bytes as may hold it.
func TestPlainAgainstAModel(t *testing.T) {
	for a := range 256 {
		counts(t, string([]byte{byte(a)}))
		for b := range 256 {
			counts(t, string([]byte{byte(a), byte(b)}))
		}
	}
	var bounds []string
	for _, b := range []byte("\x00\x1f\x20\x41\x7e\x7f\x80\x8f\x90\x9f\xa0\xbf\xc0\xc1\xc2\xdf\xe0\xe1\xec\xed\xee\xef\xf0\xf1\xf3\xf4\xf5\xf7\xf8\xff") {
		bounds = append(bounds, string([]byte{b}))
	}
	texts(bounds, 4, func(s string) {
		counts(t, s)
		_, plainly := signsOf(s)
		v := Val{Kind: api.KText, S: s}
		if plain.Right(v) != plainly || back(t, api.KText, s) != plainly {
			t.Errorf("%q as a value", s)
		}
	})
	for r := range 0x200000 {
		counts(t, string([]byte{0xf0 | byte(r>>18), 0x80 | byte(r>>12&63), 0x80 | byte(r>>6&63), 0x80 | byte(r&63)}))
		if r < 1<<16 {
			counts(t, "a"+string([]byte{0xe0 | byte(r>>12), 0x80 | byte(r>>6&63), 0x80 | byte(r&63)})+"b")
		}
		if r < 1<<11 {
			counts(t, string([]byte{0xc0 | byte(r>>6), 0x80 | byte(r&63)})+"€")
		}
	}
}

// P13.2: values of all kinds, right ones and others: what is written is read as it.
func TestRoundTrips(t *testing.T) {
	r := rand.New(rand.NewSource(13))
	right := 0
	for range 100000 {
		v := Val{Kind: 1 + r.Intn(6)}
		switch v.Kind {
		case api.KInt, api.KTime:
			v.N = int64(r.Uint64()) >> r.Intn(64)
		case api.KBool:
			v.N = int64(r.Intn(4) - 1)
		case api.KText:
			for range r.Intn(110) {
				v.S += string(rune(r.Intn(1 << (7 + r.Intn(10)))))
			}
		case api.KBytes:
			v.B = make([]byte, r.Intn(220))
			r.Read(v.B)
		case api.KLink:
			v.Obj, v.Inst = r.Intn(70000)-1000, r.Intn(70000)-1000
		}
		s, e := plain.Write(v)
		if (e == api.OK) != plain.Right(v) || e != api.OK && (e != api.ErrArg || s != "") {
			t.Fatalf("Write of %v: %q, %d", v, s, e)
		}
		if e != api.OK {
			continue
		}
		right++
		reads(t, v.Kind, s, v, api.OK)
		back(t, v.Kind, s)
	}
	if right < 30000 {
		t.Errorf("%d right ones", right)
	}
}
