package sha_test

import (
	"bytes"
	"crypto/sha256"
	"encoding/hex"
	"math/rand"
	"strings"
	"testing"

	"outpost/api"
	"outpost/sha"
)

// filled is n bytes that depend on n and seed alone.
func filled(n int, seed int64) []byte {
	b := make([]byte, n)
	rand.New(rand.NewSource(seed)).Read(b)
	return b
}

// P1.1: digests that are known from elsewhere.
func TestKnownDigests(t *testing.T) {
	for _, c := range []struct{ text, want string }{
		{"", "e3b0c44298fc1c149afbf4c8996fb92427ae41e4649b934ca495991b7852b855"},
		{"a", "ca978112ca1bbdcafac231b39a23dc4da786eff8147c4e72b9807785afee48bb"},
		{"abc", "ba7816bf8f01cfea414140de5dae2223b00361a396177a9cb410ff61f20015ad"},
		{"abcdbcdecdefdefgefghfghighijhijkijkljklmklmnlmnomnopnopq", "248d6a61d20638b8e5c026930c3e6039a33ce45964ff2167f6ecedd419db06c1"},
		{"abcdefghbcdefghicdefghijdefghijkefghijklfghijklmghijklmnhijklmnoijklmnopjklmnopqklmnopqrlmnopqrsmnopqrstnopqrstu", "cf5b16a778af8380036ce59e7b0492370b249b11e8f07a51afac45037afee9d1"},
		{strings.Repeat("a", 1000000), "cdc76e5c9914fb9281a1c7e284d73e67f1809a48a497200e046d39ccc7112cd0"},
	} {
		h := sha.New()
		h.Write([]byte(c.text))
		if got := sha.Hex(h.Sum()); got != c.want {
			t.Errorf("%d bytes written: %s, want %s", len(c.text), got, c.want)
		}
		if got := sha.Hex(sha.Sum([]byte(c.text))); got != c.want {
			t.Errorf("%d bytes: %s, want %s", len(c.text), got, c.want)
		}
	}
}

// P1.1: every length around some blocks' ends, of bytes of all kinds.
func TestEveryLength(t *testing.T) {
	for n := range 4*64 + 2 {
		for _, b := range [][]byte{filled(n, int64(n)), make([]byte, n), bytes.Repeat([]byte{255}, n)} {
			if got, want := sha.Sum(b), sha256.Sum256(b); got != want {
				t.Errorf("%d bytes %x: %x, want %x", n, b, got, want)
			}
		}
	}
}

// P1.1: two pieces, cut at every place; the digest between them is asked for, too, and turns nothing.
func TestTwoPieces(t *testing.T) {
	all := filled(200, 1)
	want := sha256.Sum256(all)
	for i := range len(all) + 1 {
		h := sha.New()
		h.Write(all[:i])
		if got := h.Sum(); got != sha256.Sum256(all[:i]) || got != h.Sum() {
			t.Errorf("first %d bytes: %x", i, got)
		}
		if h.Len() != int64(i) {
			t.Errorf("first %d bytes: Len %d", i, h.Len())
		}
		h.Write(all[i:])
		if h.Sum() != want || h.Len() != int64(len(all)) {
			t.Errorf("cut at %d: %x, Len %d", i, h.Sum(), h.Len())
		}
		if sha.Sum(all[:i], all[i:]) != want {
			t.Errorf("parts cut at %d: %x", i, sha.Sum(all[:i], all[i:]))
		}
	}
}

// P1.1: many pieces of many sizes, empty ones and nil among them.
func TestManyPieces(t *testing.T) {
	r := rand.New(rand.NewSource(2))
	for round := range 300 {
		h := sha.New()
		var all []byte
		var parts [][]byte
		for range r.Intn(12) {
			piece := filled(r.Intn(150), r.Int63())
			if len(piece) < 20 {
				piece = nil
			}
			parts = append(parts, piece, []byte{})
			all = append(all, piece...)
			h.Write(piece)
			h.Write([]byte{})
		}
		want := sha256.Sum256(all)
		if h.Sum() != want || sha.Sum(parts...) != want || h.Len() != int64(len(all)) {
			t.Errorf("round %d: %x and %x, want %x; Len %d of %d", round, h.Sum(), sha.Sum(parts...), want, h.Len(), len(all))
		}
	}
}

// P1.1: no parts, and parts of nothing, are nothing.
func TestSumOfNothing(t *testing.T) {
	want := sha256.Sum256(nil)
	if sha.Sum() != want || sha.Sum(nil) != want || sha.Sum(nil, []byte{}, nil) != want || sha.New().Sum() != want {
		t.Error("the digest of nothing is another one")
	}
	if sha.New().Len() != 0 {
		t.Error("a new one has bytes")
	}
}

// P1.1: so many bytes that 32 bits don't hold how many bits there were.
func TestMoreBitsThanAWordHolds(t *testing.T) {
	piece := filled(1<<20, 4)
	h, want := sha.New(), sha256.New()
	for range 1 << 9 {
		h.Write(piece)
		want.Write(piece)
	}
	h.Write([]byte("abc"))
	want.Write([]byte("abc"))
	if d := h.Sum(); !bytes.Equal(d[:], want.Sum(nil)) || h.Len() != 1<<29+3 {
		t.Errorf("%x, Len %d", d, h.Len())
	}
}

// P1.1: a clone goes on from the same, and neither touches the other.
func TestClone(t *testing.T) {
	for n := range 130 {
		start := filled(n, int64(n))
		h := sha.New()
		h.Write(start)
		c := h.Clone()
		if c.Len() != int64(n) || c.Sum() != sha256.Sum256(start) {
			t.Errorf("clone behind %d bytes: Len %d, %x", n, c.Len(), c.Sum())
		}
		h.Write([]byte("one way"))
		c.Write([]byte("the other, longer way"))
		if h.Sum() != sha.Sum(start, []byte("one way")) || h.Len() != int64(n+7) {
			t.Errorf("the first, behind %d bytes: %x", n, h.Sum())
		}
		if c.Sum() != sha.Sum(start, []byte("the other, longer way")) || c.Len() != int64(n+21) {
			t.Errorf("its clone, behind %d bytes: %x", n, c.Sum())
		}
	}
}

// P1.2: digits of all bytes, there and back, in small and great letters.
func TestHexAndParse(t *testing.T) {
	for i := range 256 {
		var d [32]byte
		for k := range d {
			d[k] = byte(i + 7*k)
		}
		text := sha.Hex(d)
		if text != hex.EncodeToString(d[:]) {
			t.Errorf("Hex of %x: %s", d, text)
		}
		for _, s := range []string{text, strings.ToUpper(text), strings.ToUpper(text[:31]) + text[31:]} {
			if got, e := sha.Parse(s); e != api.OK || got != d {
				t.Errorf("Parse of %s: %x, %d", s, got, e)
			}
		}
	}
}

// P1.1: every sign at every place is a digit, or refused.
func TestParseEverySign(t *testing.T) {
	text := sha.Hex(sha.Sum([]byte("abc")))
	for i := range text {
		for c := range 256 {
			s := text[:i] + string([]byte{byte(c)}) + text[i+1:]
			d, e := sha.Parse(s)
			if strings.IndexByte("0123456789abcdefABCDEF", byte(c)) >= 0 {
				if e != api.OK || sha.Hex(d) != strings.ToLower(s) {
					t.Errorf("%q: %x, %d", s, d, e)
				}
			} else if e != api.ErrForm || d != [32]byte{} {
				t.Errorf("%q: %x, %d", s, d, e)
			}
		}
	}
}

// P1.1: other lengths, counted in bytes and in signs, and signs of more than one byte.
func TestParseWrong(t *testing.T) {
	text := sha.Hex(sha.Sum(nil))
	for n := range 200 {
		if d, e := sha.Parse(strings.Repeat("0", n)); n != 64 && (e != api.ErrForm || d != [32]byte{}) {
			t.Errorf("%d digits: %x, %d", n, d, e)
		}
	}
	for _, s := range []string{
		text + " ", " " + text, "0x" + text, "0x" + text[2:], text + "\n", text[:63] + "\n", text[:63],
		strings.Repeat("é", 32), strings.Repeat("é", 64), strings.Repeat("0", 61) + "０", strings.Repeat("０", 64),
		"-" + text[1:], "+" + text[1:], strings.Repeat("\x00", 64), strings.Repeat("\xff", 64), strings.Repeat("0", 62) + "\u0660",
	} {
		if d, e := sha.Parse(s); e != api.ErrForm || d != [32]byte{} {
			t.Errorf("%q: %x, %d", s, d, e)
		}
	}
}

// P1.2: arguments stay as they are, also behind their lengths, and may be written over.
func TestArgumentsStay(t *testing.T) {
	for _, n := range []int{0, 1, 63, 64, 65, 200} {
		room := filled(n+100, int64(n))
		before := bytes.Clone(room)
		h := sha.New()
		h.Write(room[:n])
		sha.Sum(room[:n], room[n:n+3])
		if !bytes.Equal(room, before) {
			t.Errorf("%d bytes were turned", n)
		}
		clear(room)
		h.Write(before[n:])
		if h.Sum() != sha256.Sum256(before) {
			t.Errorf("%d bytes were kept, not taken", n)
		}
	}
}

// P2: the same calls are answered the same, whatever other digests are being made.
func TestNothingIsShared(t *testing.T) {
	a, b := sha.New(), sha.New()
	for i := range 100 {
		a.Write([]byte{byte(i)})
		b.Write([]byte{byte(i), 1})
	}
	again := sha.New()
	for i := range 100 {
		again.Write([]byte{byte(i)})
	}
	if a.Sum() != again.Sum() || a.Sum() == b.Sum() {
		t.Error("a digest hangs on another one")
	}
	d := a.Sum()
	d[0]++
	if d == a.Sum() {
		t.Error("what was answered is shared")
	}
}
