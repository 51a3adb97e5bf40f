package msg_test

import (
	"bytes"
	"encoding/binary"
	"math/rand"
	"slices"
	"testing"

	"outpost/api"
	"outpost/msg"
	"outpost/opt"
)

// equal tells whether all parts of two messages are the same, without Same.
func equal(a, b api.Msg) bool { return string(flat(a)) == string(flat(b)) }

// flat are all parts of a message in one row, each list behind its length.
func flat(m api.Msg) []byte {
	var row []byte
	number := func(n int) { row = binary.BigEndian.AppendUint64(row, uint64(n)) }
	list := func(b []byte) {
		number(len(b))
		row = append(row, b...)
	}
	number(m.Kind)
	number(m.Code)
	number(m.ID)
	list(m.Token)
	number(len(m.Opts))
	for _, x := range m.Opts {
		number(x.Num)
		list(x.Val)
	}
	list(m.Body)
	return row
}

// model is what Read is to answer, written otherwise, but for the options, that are layer 8's.
func model(b []byte) (api.Msg, api.Errno) {
	if len(b) < 4 || b[0]&0xC0 != 0x40 || b[0]%16 > 8 || !isUsed(int(b[1])) || b[1] == 0 && len(b) > 4 || len(b) < 4+int(b[0]%16) {
		return api.Msg{}, api.ErrForm
	}
	m := api.Msg{Kind: int(b[0]-0x40) / 16, Code: int(b[1]), ID: int(binary.BigEndian.Uint16(b[2:]))}
	behind := 4 + int(b[0]%16)
	m.Token = b[4:behind]
	opts, n, e := opt.Read(b[behind:])
	if e != api.OK {
		return api.Msg{}, e
	}
	m.Opts = opts
	if behind += n; behind == len(b) {
		return m, api.OK
	}
	m.Body = b[behind+1:]
	switch {
	case len(m.Body) == 0:
		return api.Msg{}, api.ErrForm
	case len(m.Body) > 1200:
		return api.Msg{}, api.ErrLong
	}
	return m, api.OK
}

// asModel holds Read against the model; what is read is written as the same bytes (P9.2).
func asModel(t *testing.T, b []byte) api.Errno {
	t.Helper()
	want, wrong := model(b)
	m, e := msg.Read(b)
	if !equal(m, want) || e != wrong {
		t.Fatalf("Read of %x: %v, %d, want %v, %d", b, m, e, want, wrong)
	}
	if e != api.OK {
		return e
	}
	if again, e := msg.Write(m); !bytes.Equal(again, b) || e != api.OK {
		t.Fatalf("%x is written as %x, %d", b, again, e)
	}
	if kind, id, ok := msg.Sniff(b); kind != m.Kind || id != m.ID || !ok {
		t.Fatalf("Sniff of %x: %d, %d, %t", b, kind, id, ok)
	}
	return e
}

// someBytes are n bytes, or fewer.
func someBytes(r *rand.Rand, n int) []byte {
	b := make([]byte, r.Intn(n+1))
	r.Read(b)
	return b
}

// someMessage is a message that is right.
func someMessage(r *rand.Rand) api.Msg {
	m := api.Msg{Kind: r.Intn(4), ID: r.Intn(65536)}
	if r.Intn(20) == 0 {
		return m
	}
	m.Code = 1 + r.Intn(31)
	if r.Intn(2) == 0 {
		m.Code = 64 + r.Intn(128)
	}
	m.Token = someBytes(r, 8)
	for range r.Intn(25) {
		num, size := r.Intn(30), 6
		if r.Intn(8) == 0 {
			num, size = r.Intn(65536), 300
		}
		m.Opts = append(m.Opts, api.Opt{Num: num, Val: someBytes(r, size)})
	}
	m.Body = someBytes(r, []int{0, 5, 1200}[r.Intn(3)])
	return m
}

// P9.2, P5: what is written is read as it, its options sorted, and is written again as the same bytes.
func TestWrittenIsRead(t *testing.T) {
	r := rand.New(rand.NewSource(10))
	for range 20000 {
		m := someMessage(r)
		b, e := msg.Write(m)
		if e != api.OK {
			t.Fatalf("%v: %d", m, e)
		}
		slices.SortStableFunc(m.Opts, func(x, y api.Opt) int { return x.Num - y.Num })
		got, e := msg.Read(b)
		if !equal(got, m) || !msg.Same(got, m) || e != api.OK {
			t.Fatalf("%v is read as %v, %d", m, got, e)
		}
		asModel(t, b)
	}
}

// P9.1, P9.2, P1: whatever bytes there are, whole or cut off or turned or with more behind.
func TestReadAgainstAModel(t *testing.T) {
	r := rand.New(rand.NewSource(11))
	met := map[api.Errno]int{}
	for range 20000 {
		b, _ := msg.Write(someMessage(r))
		met[asModel(t, b[:r.Intn(len(b)+1)])]++
		met[asModel(t, append(b[:len(b):len(b)], someBytes(r, 40)...))]++
		b[r.Intn(len(b))] = byte(r.Intn(256))
		met[asModel(t, b)]++
		b[r.Intn(min(len(b), 16))] = byte(r.Intn(256))
		met[asModel(t, b)]++
		met[asModel(t, append([]byte{0x40, 1, 0, 0}, someBytes(r, 40)...))]++
		asModel(t, someBytes(r, 12))
	}
	for _, e := range []api.Errno{api.OK, api.ErrForm, api.ErrMany, api.ErrArg, api.ErrLong} {
		if met[e] < 100 {
			t.Errorf("error %d was met %d times", e, met[e])
		}
	}
}
