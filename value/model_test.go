package value_test

import (
	"bytes"
	"encoding/binary"
	"math/big"
	"math/rand"
	"testing"
	"unicode"
	"unicode/utf8"

	"outpost/api"
	"outpost/value"
)

// asBig is a number of so many bytes as the document tells it: below 0 as 2 to the power of the bits less that.
func asBig(n int64, size int) ([]byte, bool) {
	bits := uint(8 * size)
	half := new(big.Int).Lsh(big.NewInt(1), bits-1)
	x := big.NewInt(n)
	if x.Cmp(half) >= 0 || x.Cmp(new(big.Int).Neg(half)) < 0 {
		return nil, false
	}
	if n < 0 {
		x.Add(x, new(big.Int).Lsh(big.NewInt(1), bits))
	}
	return x.FillBytes(make([]byte, size)), true
}

// modelWire is what Wire of a number is to answer.
func modelWire(n int64) []byte {
	for _, size := range []int{1, 2, 4} {
		if b, ok := asBig(n, size); ok {
			return b
		}
	}
	b, _ := asBig(n, 8)
	return b
}

// modelUnwire is what Unwire is to answer, written otherwise.
func modelUnwire(kind int, b []byte) (value.Value, api.Errno) {
	n, isNumber := int64(0), true
	switch len(b) {
	case 1:
		n = int64(int8(b[0]))
	case 2:
		n = int64(int16(binary.BigEndian.Uint16(b)))
	case 4:
		n = int64(int32(binary.BigEndian.Uint32(b)))
	case 8:
		n = int64(binary.BigEndian.Uint64(b))
	default:
		isNumber = false
	}
	switch {
	case kind == 1 && isNumber:
		return value.Int(n), api.OK
	case kind == 5 && isNumber:
		return value.Time(n), api.OK
	case kind == 2 && string(b) == "\x00":
		return value.Bool(false), api.OK
	case kind == 2 && string(b) == "\x01":
		return value.Bool(true), api.OK
	case kind == 6 && len(b) == 4:
		return value.Link{Obj: 256*int(b[0]) + int(b[1]), Inst: 256*int(b[2]) + int(b[3])}, api.OK
	case (kind == 3 || kind == 4) && len(b) > 200:
		return nil, api.ErrLong
	case kind == 4:
		return value.Bytes(b), api.OK
	case kind == 3 && isText(b):
		return value.Text(b), api.OK
	case kind >= 1 && kind <= 6:
		return nil, api.ErrForm
	}
	return nil, api.ErrKind
}

// isText tells whether bytes are a plain text.
func isText(b []byte) bool {
	for len(b) > 0 {
		r, size := utf8.DecodeRune(b)
		if r == utf8.RuneError && size == 1 || unicode.IsControl(r) && r < 0x80 {
			return false
		}
		b = b[size:]
	}
	return true
}

// asModel holds Unwire of all kinds against the model; what is read is written in no more bytes, and read again as the same.
func asModel(t *testing.T, b []byte) {
	t.Helper()
	for kind := range 8 {
		want, wrong := modelUnwire(kind, b)
		v, e := value.Unwire(kind, b)
		if !is(v, want) || e != wrong {
			t.Fatalf("Unwire of kind %d, %x: %v, %d, want %v, %d", kind, b, v, e, want, wrong)
		}
		if e != api.OK {
			continue
		}
		short := value.Wire(v)
		again, e := value.Unwire(kind, short)
		if v.Kind() != kind || !is(again, v) || !value.Same(again, v) || e != api.OK {
			t.Fatalf("kind %d, %x: %v is written as %x, and read as %v, %d", kind, b, v, short, again, e)
		}
		// A number alone may have had more bytes than need be.
		if !bytes.HasSuffix(b, short) || kind != api.KInt && kind != api.KTime && len(short) < len(b) {
			t.Fatalf("kind %d: %x is written as %x", kind, b, short)
		}
		back, e := value.Of(value.Val(v))
		if !is(back, v) || e != api.OK {
			t.Fatalf("%T %v: its api.Val's value is %v, %d", v, v, back, e)
		}
	}
}

// P14.1, P14.2: all of up to two bytes, and many more.
func TestUnwireAsModel(t *testing.T) {
	asModel(t, nil)
	for a := range 256 {
		asModel(t, []byte{byte(a)})
		for b := range 256 {
			asModel(t, []byte{byte(a), byte(b)})
		}
	}
	r := rand.New(rand.NewSource(14))
	some := []byte{0, 1, 0x7f, 0x80, 0xff, 'a', 0xc3, 0xa9}
	for range 100000 {
		b := make([]byte, r.Intn(10))
		if r.Intn(50) == 0 {
			b = make([]byte, 195+r.Intn(10))
		}
		odd := r.Intn(3)
		for i := range b {
			switch odd {
			case 0:
				b[i] = byte(r.Intn(256))
			case 1:
				b[i] = some[r.Intn(len(some))]
			default:
				b[i] = byte(' ' + r.Intn(90))
			}
		}
		asModel(t, b)
	}
}

// P14.1, P14.2: numbers about each power of 2, and many more.
func TestWireAsModel(t *testing.T) {
	r := rand.New(rand.NewSource(14))
	var all []int64
	for bit := range 64 {
		for d := int64(-2); d <= 2; d++ {
			all = append(all, int64(1)<<bit+d, -(int64(1)<<bit)+d, r.Int63()>>bit, -r.Int63()>>bit)
		}
	}
	for n := range int64(70000) {
		all = append(all, n, -n)
	}
	for _, n := range all {
		want := modelWire(n)
		for _, v := range []value.Value{value.Int(n), value.Time(n)} {
			if got := value.Wire(v); !bytes.Equal(got, want) {
				t.Fatalf("Wire of %T %d: %x, want %x", v, n, got, want)
			}
			if back, e := value.Unwire(v.Kind(), want); back != v || e != api.OK {
				t.Fatalf("%T %d is read as %v, %d", v, n, back, e)
			}
		}
	}
}
