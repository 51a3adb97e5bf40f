package crc_test

import (
	"bytes"
	"hash/crc32"
	"math"
	"math/rand"
	"testing"

	"outpost/crc"
)

// filled is n bytes that depend on n and seed alone.
func filled(n int, seed int64) []byte {
	b := make([]byte, n)
	rand.New(rand.NewSource(seed)).Read(b)
	return b
}

// P2.1: sums that are known from elsewhere.
func TestKnownSums(t *testing.T) {
	for _, c := range []struct {
		text string
		want uint32
	}{
		{"", 0},
		{"a", 0xE8B7BE43},
		{"123456789", 0xCBF43926},
		{"The quick brown fox jumps over the lazy dog", 0x414FA339},
		{"\x00\x00\x00\x00", 0x2144DF1C},
		{"\xff\xff\xff\xff", 0xFFFFFFFF},
	} {
		if got := crc.Sum([]byte(c.text)); got != c.want {
			t.Errorf("%q: %08X, want %08X", c.text, got, c.want)
		}
	}
	if crc.Sum(nil) != 0 {
		t.Error("the sum of nil")
	}
}

// P2.1: all bytes, and texts of many lengths.
func TestSums(t *testing.T) {
	for i := range 256 {
		if b := []byte{byte(i)}; crc.Sum(b) != crc32.ChecksumIEEE(b) {
			t.Errorf("of byte %d: %08X", i, crc.Sum(b))
		}
	}
	for n := range 300 {
		if b := filled(n, int64(n)); crc.Sum(b) != crc32.ChecksumIEEE(b) {
			t.Errorf("of %x: %08X", b, crc.Sum(b))
		}
	}
}

// P2.1: more bytes behind those whose sum it is, wherever they are cut; any number may be handed in as a sum.
func TestExtend(t *testing.T) {
	b := filled(70, 3)
	for i := range len(b) + 1 {
		if got := crc.Extend(crc.Sum(b[:i]), b[i:]); got != crc.Sum(b) {
			t.Errorf("cut at %d: %08X", i, got)
		}
		if crc.Extend(0, b[:i]) != crc.Sum(b[:i]) {
			t.Errorf("of 0 and %d bytes: %08X", i, crc.Extend(0, b[:i]))
		}
	}
	for _, sum := range []uint32{0, 1, 0x80000000, math.MaxUint32, 0xCBF43926} {
		if crc.Extend(sum, nil) != sum || crc.Extend(sum, []byte{}) != sum {
			t.Errorf("nothing behind %08X: %08X", sum, crc.Extend(sum, nil))
		}
		if crc.Extend(sum, b) != crc32.Update(sum, crc32.IEEETable, b) {
			t.Errorf("behind %08X: %08X", sum, crc.Extend(sum, b))
		}
	}
}

// P2.1: the sum stands behind, the lowest byte first.
func TestSeal(t *testing.T) {
	if got := crc.Seal([]byte("123456789")); string(got) != "123456789\x26\x39\xF4\xCB" {
		t.Errorf("%x", got)
	}
	for _, b := range [][]byte{nil, {}} {
		if got := crc.Seal(b); !bytes.Equal(got, []byte{0, 0, 0, 0}) {
			t.Errorf("nothing, sealed: %x", got)
		}
	}
}

// P2.2 and P5: what is sealed is opened.
func TestSealedIsOpened(t *testing.T) {
	for n := range 300 {
		b := filled(n, int64(n))
		if got, ok := crc.Open(crc.Seal(b)); !ok || !bytes.Equal(got, b) {
			t.Errorf("%x: %x, %t", b, got, ok)
		}
	}
	if got, ok := crc.Open(crc.Seal(crc.Seal([]byte("ab")))); !ok || !bytes.Equal(got, crc.Seal([]byte("ab"))) {
		t.Errorf("sealed twice: %x, %t", got, ok)
	}
}

// P2.1: what is no sealed bytes isn't opened.
func TestOpenWrong(t *testing.T) {
	sealed := crc.Seal([]byte("some bytes"))
	wrong := [][]byte{nil, {}, {0}, {0, 0}, {0, 0, 0}, {1, 0, 0, 0}, {255, 255, 255}, append(bytes.Clone(sealed), 0), append([]byte{0}, sealed...)}
	for n := range len(sealed) {
		wrong = append(wrong, sealed[:n])
	}
	high := []byte("some bytes")
	for i := range 4 {
		high = append(high, byte(crc.Sum([]byte("some bytes"))>>(24-8*i)))
	}
	for _, b := range append(wrong, high) {
		if got, ok := crc.Open(b); ok || got != nil {
			t.Errorf("%x: %x, %t", b, got, ok)
		}
	}
	if got, ok := crc.Open([]byte{0, 0, 0, 0}); !ok || len(got) != 0 {
		t.Errorf("the sum of nothing: %x, %t", got, ok)
	}
}

// turn turns those of a row's bits, from the one at on, that are 1 in run.
func turn(b []byte, at int, run uint32) {
	for i := range 32 {
		if run>>i&1 == 1 {
			b[(at+i)/8] ^= 1 << ((at + i) % 8)
		}
	}
}

// P2.2: bits that are turned within a run of 32 are told, in the bytes and in what is sealed.
func TestTurnedBits(t *testing.T) {
	b := filled(24, 5)
	runs := []uint32{math.MaxUint32, 0x80000001, 0xEDB88320, 0xDB710641, 0xAAAAAAAA, 0x00010001}
	r := rand.New(rand.NewSource(6))
	for range 200 {
		runs = append(runs, r.Uint32()|1)
	}
	for size := range 32 {
		runs = append(runs, math.MaxUint32>>size, 1|1<<(31-size), 1<<size)
	}
	sum, sealed := crc.Sum(b), crc.Seal(b)
	for _, run := range runs {
		for at := range 8*len(b) - 31 {
			other := bytes.Clone(b)
			if turn(other, at, run); crc.Sum(other) == sum {
				t.Fatalf("run %08X at bit %d: the same sum", run, at)
			}
		}
		for at := range 8*len(sealed) - 31 {
			other := bytes.Clone(sealed)
			turn(other, at, run)
			if got, ok := crc.Open(other); ok || got != nil {
				t.Fatalf("run %08X at bit %d is opened", run, at)
			}
		}
	}
}

// P2.1 and P5: numbers of four bytes, the lowest first, there and back.
func TestNumbersOfFourBytes(t *testing.T) {
	if got := crc.Put32([]byte{9}, 0x01020304); !bytes.Equal(got, []byte{9, 4, 3, 2, 1}) {
		t.Errorf("Put32: %x", got)
	}
	for _, n := range []uint32{0, 1, 255, 256, 65535, 65536, 1 << 24, 0x80000000, 0xF1F2F3F4, math.MaxUint32} {
		for _, b := range [][]byte{nil, {}} {
			got, ok := crc.Get32(append(crc.Put32(b, n), 7, 7))
			if !ok || got != n {
				t.Errorf("%d: %d, %t", n, got, ok)
			}
		}
	}
	if got, ok := crc.Get32([]byte{4, 3, 2, 1, 0}); !ok || got != 0x01020304 {
		t.Errorf("Get32: %x, %t", got, ok)
	}
	for _, b := range [][]byte{nil, {}, {1}, {1, 2}, {1, 2, 3}} {
		if n, ok := crc.Get32(b); ok || n != 0 {
			t.Errorf("Get32 of %x: %d, %t", b, n, ok)
		}
	}
}

// P2.1 and P5: numbers of two bytes, of which the lowest sixteen bits count.
func TestNumbersOfTwoBytes(t *testing.T) {
	if got := crc.Put16([]byte{9, 8}, 0x0102); !bytes.Equal(got, []byte{9, 8, 2, 1}) {
		t.Errorf("Put16: %x", got)
	}
	for _, n := range []int{0, 1, 255, 256, 0x7FFF, 0x8000, 0xFFFF, 0x10000, 0x12345678, -1, -2, -0x8000, -0x10000, math.MaxInt, math.MinInt} {
		got, ok := crc.Get16(append(crc.Put16(nil, n), 7))
		if !ok || got != n&0xFFFF {
			t.Errorf("%d: %d, %t", n, got, ok)
		}
	}
	if got, ok := crc.Get16([]byte{2, 1}); !ok || got != 0x0102 {
		t.Errorf("Get16: %x, %t", got, ok)
	}
	for _, b := range [][]byte{nil, {}, {1}} {
		if n, ok := crc.Get16(b); ok || n != 0 {
			t.Errorf("Get16 of %x: %d, %t", b, n, ok)
		}
	}
}

// P2.3: answers are new memory, spare room too; arguments stay, also behind their lengths.
func TestNewMemory(t *testing.T) {
	open := func(b []byte) []byte {
		got, ok := crc.Open(b)
		if !ok {
			t.Fatalf("%x isn't opened", b)
		}
		return got
	}
	for name, call := range map[string]func([]byte) []byte{
		"Seal":  crc.Seal,
		"Open":  open,
		"Put32": func(b []byte) []byte { return crc.Put32(b, 0x01020304) },
		"Put16": func(b []byte) []byte { return crc.Put16(b, 0x0102) },
	} {
		for n := range 40 {
			given := crc.Seal(filled(n, int64(n)))
			room := append(bytes.Clone(given), filled(16, 7)...)
			before := bytes.Clone(room)
			got := call(room[:len(given)])
			want := bytes.Clone(got)
			for _, x := range [][]byte{got[:cap(got)], call(room[:len(given)])} {
				for i := range x {
					x[i] ^= 255
				}
			}
			if !bytes.Equal(room, before) {
				t.Errorf("%s of %d bytes: the argument is turned", name, len(given))
			}
			got = call(room[:len(given)])
			clear(room)
			if !bytes.Equal(got, want) {
				t.Errorf("%s of %d bytes: the argument is kept, or the answer another one", name, len(given))
			}
		}
	}
}
