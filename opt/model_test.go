package opt_test

import (
	"bytes"
	"encoding/binary"
	"math/rand"
	"testing"

	"outpost/api"
	"outpost/opt"
)

// told is the number of four bits, told by the next bytes of r where these are more than 12; false if there are none.
func told(r *bytes.Reader, four byte) (int, bool) {
	switch four {
	case 13:
		more, err := r.ReadByte()
		return int(more) + 13, err == nil
	case 14:
		var more uint16
		err := binary.Read(r, binary.BigEndian, &more)
		return int(more) + 269, err == nil
	}
	return int(four), four != 15
}

// model is what Read is to answer, written otherwise.
func model(b []byte) ([]api.Opt, int, api.Errno) {
	var opts []api.Opt
	r, num := bytes.NewReader(b), 0
	for r.Len() > 0 {
		first, _ := r.ReadByte()
		if first == 255 {
			return opts, len(b) - r.Len() - 1, api.OK
		}
		delta, ok := told(r, first/16)
		if !ok {
			return nil, 0, api.ErrForm
		}
		size, ok := told(r, first%16)
		if !ok {
			return nil, 0, api.ErrForm
		}
		if len(opts)+1 > 24 {
			return nil, 0, api.ErrMany
		}
		if num += delta; num >= 1<<16 {
			return nil, 0, api.ErrArg
		}
		if size > 300 {
			return nil, 0, api.ErrLong
		}
		val := make([]byte, size)
		if n, _ := r.Read(val); n < size {
			return nil, 0, api.ErrForm
		}
		opts = append(opts, api.Opt{Num: num, Val: val})
	}
	return opts, len(b), api.OK
}

// asModel holds Read against the model; what is read is written as the same bytes (P8.2).
func asModel(t *testing.T, b []byte) api.Errno {
	t.Helper()
	want, size, wrong := model(b)
	opts, n, e := opt.Read(b)
	if !same(opts, want) || n != size || e != wrong {
		t.Fatalf("Read of %x: %v, %d, %d, want %v, %d, %d", b, opts, n, e, want, size, wrong)
	}
	if e != api.OK {
		return e
	}
	if again, e := opt.Write(opts); !bytes.Equal(again, b[:n]) || e != api.OK {
		t.Fatalf("%x is written as %x, %d", b[:n], again, e)
	}
	return e
}

// P8.1, P8.2: all of up to two bytes, and of up to five that begin with all of two.
func TestShortBytes(t *testing.T) {
	asModel(t, nil)
	for x := range 256 {
		asModel(t, []byte{byte(x)})
		for y := range 256 {
			for _, behind := range []string{"", "\x00", "\x10", "\xff", "\xff\xff", "\x01\x02\x03"} {
				asModel(t, append([]byte{byte(x), byte(y)}, behind...))
			}
		}
	}
}

// someBytes are options' bytes that are mostly, but not always, right.
func someBytes(r *rand.Rand) []byte {
	var b []byte
	for range r.Intn(27) {
		delta, size := byte(r.Intn(15)), byte(r.Intn(15))
		if r.Intn(3) > 0 {
			delta, size = byte(r.Intn(3)), byte(r.Intn(3))
		}
		if r.Intn(40) == 0 {
			delta = 13 + byte(r.Intn(3))
		}
		b = append(b, delta<<4|size)
		long := int(size)
		if delta >= 13 {
			b = append(b, make([]byte, delta-12)...)
			b[len(b)-1] = byte(r.Intn(256))
			if r.Intn(4) == 0 {
				b[len(b)-int(delta-12)] = byte(r.Intn(256))
			}
		}
		if size >= 13 {
			b = append(b, make([]byte, size-12)...)
			more := r.Intn(40)
			b[len(b)-1] = byte(more)
			long = map[byte]int{13: 13, 14: 269}[size] + more
		}
		for range long {
			b = append(b, byte(r.Intn(256)))
		}
	}
	return b
}

// P8.1, P8.2, P1: whatever bytes there are, whole or cut off or turned.
func TestReadAgainstAModel(t *testing.T) {
	r := rand.New(rand.NewSource(8))
	met := map[api.Errno]int{}
	for range 20000 {
		b := someBytes(r)
		met[asModel(t, b)]++
		met[asModel(t, b[:r.Intn(len(b)+1)])]++
		if len(b) > 0 {
			b[r.Intn(len(b))] = byte(r.Intn(256))
			met[asModel(t, b)]++
		}
	}
	for _, e := range []api.Errno{api.OK, api.ErrForm, api.ErrMany, api.ErrArg, api.ErrLong} {
		if met[e] < 100 {
			t.Errorf("error %d was met %d times", e, met[e])
		}
	}
}

// P8.2, P5: what is written is read as it, sorted, and takes all its bytes.
func TestWrittenIsRead(t *testing.T) {
	r := rand.New(rand.NewSource(9))
	for range 20000 {
		var opts []api.Opt
		for range r.Intn(api.MaxOpts + 1) {
			num, size := r.Intn(65536), r.Intn(api.MaxOpt+1)
			if r.Intn(2) == 0 {
				num = r.Intn(30)
			}
			if r.Intn(2) == 0 {
				size = r.Intn(20)
			}
			val := make([]byte, size)
			r.Read(val)
			opts = append(opts, api.Opt{Num: num, Val: val})
		}
		b, e := opt.Write(opts)
		if e != api.OK {
			t.Fatalf("%v: %d", opts, e)
		}
		if got, n, e := opt.Read(b); !same(got, sorted(opts)) || n != len(b) || e != api.OK {
			t.Fatalf("%v is read as %v, %d, %d", opts, got, n, e)
		}
	}
}
