package block_test

import (
	"bytes"
	"math"
	"strings"
	"testing"

	"outpost/api"
	"outpost/block"
)

// Block is the layer's own, under a shorter name.
type Block = block.Block

// sizes are all that blocks may have.
var sizes = []int{16, 32, 64, 128, 256, 512, 1024}

// wrongNums and wrongSizes are some that no block has.
var (
	wrongNums  = []int{-1, -2, -1 << 20, 1 << 20, 1<<20 + 1, 1 << 28, 1 << 32, 1<<32 + 1, 1 << 60, math.MinInt, math.MaxInt}
	wrongSizes = []int{0, 1, 2, 4, 8, 15, 17, 24, 31, 33, 48, 63, 65, 100, 1000, 1023, 1025, 2048, 4096, 1<<32 + 16, 1 << 32, -1, -16, -64, -1024, math.MinInt, math.MaxInt}
)

// text are n bytes, unlike at most places.
func text(n int) []byte {
	b := make([]byte, n)
	for i := range b {
		b[i] = byte(i*7 + i>>8)
	}
	return b
}

func writes(t *testing.T, b Block, want string, wrong api.Errno) {
	t.Helper()
	if val, e := block.Write(b); string(val) != want || e != wrong {
		t.Errorf("Write of %v: %x, %d, want %x, %d", b, val, e, want, wrong)
	}
}

func reads(t *testing.T, val string, want Block, wrong api.Errno) {
	t.Helper()
	if b, e := block.Read([]byte(val)); b != want || e != wrong {
		t.Errorf("Read of %x: %v, %d, want %v, %d", val, b, e, want, wrong)
	}
}

// P10.1: the document's own examples, and the ends of what a value tells.
func TestValues(t *testing.T) {
	for _, c := range []struct {
		b   Block
		val string
	}{
		{Block{3, true, 64}, "\x3a"},
		{Block{0, false, 1024}, "\x06"},
		{Block{0, false, 16}, ""},
		{Block{0, true, 16}, "\x08"},
		{Block{0, false, 32}, "\x01"},
		{Block{0, true, 1024}, "\x0e"},
		{Block{1, false, 16}, "\x10"},
		{Block{15, true, 1024}, "\xfe"},
		{Block{16, false, 16}, "\x01\x00"},
		{Block{4095, true, 512}, "\xff\xfd"},
		{Block{4096, false, 16}, "\x01\x00\x00"},
		{Block{1<<20 - 1, false, 16}, "\xff\xff\xf0"},
		{Block{1<<20 - 1, true, 1024}, "\xff\xff\xfe"},
	} {
		writes(t, c.b, c.val, api.OK)
		reads(t, c.val, c.b, api.OK)
	}
	reads(t, "\x00", Block{0, false, 16}, api.OK)
	reads(t, "\x00\x00\x00", Block{0, false, 16}, api.OK)
	reads(t, "\x00\x00\x3a", Block{3, true, 64}, api.OK)
	if b, e := block.Read(nil); b != (Block{0, false, 16}) || e != api.OK {
		t.Errorf("Read of nil: %v, %d", b, e)
	}
}

// P10.1, P5: all values of three bytes are told apart, and a block is written as its value without zeros ahead.
func TestAllValues(t *testing.T) {
	for n := range 1 << 24 {
		whole := []byte{byte(n >> 16), byte(n >> 8), byte(n)}
		want, wrong := Block{Num: n / 16, More: n/8%2 == 1}, api.OK
		if n%8 < 7 {
			want.Size = sizes[n%8]
		} else {
			want, wrong = Block{}, api.ErrForm
		}
		b, e := block.Read(whole)
		if b != want || e != wrong {
			t.Fatalf("Read of %x: %v, %d", whole, b, e)
		}
		if e != api.OK {
			continue
		}
		val, e := block.Write(b)
		if e != api.OK || !bytes.Equal(val, bytes.TrimLeft(whole, "\x00")) {
			t.Fatalf("Write of %v: %x, %d", b, val, e)
		}
		if again, e := block.Read(val); again != b || e != api.OK {
			t.Fatalf("%v is read as %v, %d", b, again, e)
		}
	}
}

// P10.1, P1: Write's errors, and Read's.
func TestErrorsOfValues(t *testing.T) {
	for _, more := range []bool{false, true} {
		for _, size := range append(sizes, wrongSizes...) {
			for _, num := range wrongNums {
				writes(t, Block{num, more, size}, "", api.ErrArg)
			}
		}
		for _, size := range wrongSizes {
			for _, num := range []int{0, 1, 1<<20 - 1} {
				writes(t, Block{num, more, size}, "", api.ErrArg)
			}
		}
	}
	for _, val := range []string{"\x07", "\x0f", "\x17", "\xff", "\x01\x07", "\x00\x0f", "\xff\xff\xff", "\x01\x00\x07", "\x00\x00\x00\x00", "\x00\x00\x00\x06", "\x01\x00\x00\x00", "\x07\x00\x00\x00", strings.Repeat("\x00", 8), strings.Repeat("\x01", 300)} {
		reads(t, val, Block{}, api.ErrForm)
	}
}

// cuts holds Cut against what it is to answer.
func cuts(t *testing.T, body []byte, num, size int, want string, wantMore, there bool) {
	t.Helper()
	data, more, ok := block.Cut(body, num, size)
	if string(data) != want || more != wantMore || ok != there || !ok && data != nil {
		t.Errorf("block %d of %d of %d bytes: %d bytes, %t, %t", num, size, len(body), len(data), more, ok)
	}
}

// P10.1: the bytes in a block, at its edges and at those of the body.
func TestCut(t *testing.T) {
	for _, size := range sizes {
		for _, n := range []int{0, 1, size - 1, size, size + 1, 2*size - 1, 2 * size, 2*size + 1, 5 * size} {
			body := text(n)
			for num := range n/size + 3 {
				at, end := num*size, min(num*size+size, n)
				if num > 0 && at >= n {
					cuts(t, body, num, size, "", false, false)
				} else {
					cuts(t, body, num, size, string(body[at:end]), n > end, true)
				}
			}
			for _, num := range append(wrongNums, 1<<20-1) {
				cuts(t, body, num, size, "", false, false)
			}
		}
		cuts(t, nil, 0, size, "", false, true)
		cuts(t, nil, 1, size, "", false, false)
	}
	for _, size := range wrongSizes {
		for _, num := range []int{0, 1, -1, 1 << 20, 3} {
			cuts(t, text(100), num, size, "", false, false)
			cuts(t, nil, num, size, "", false, false)
		}
	}
}

// P10.1: numbers end ahead of the bytes of a body that is long enough.
func TestCutOfALongBody(t *testing.T) {
	long := make([]byte, 1<<24+20)
	long[1<<24-1], long[1<<24] = 5, 6
	cuts(t, long, 1<<20-1, 16, strings.Repeat("\x00", 15)+"\x05", true, true)
	cuts(t, long, 1<<20, 16, "", false, false)
	cuts(t, long, 1<<19, 32, "\x06"+strings.Repeat("\x00", 19), false, true)
	cuts(t, long, 1<<19+1, 32, "", false, false)
}
