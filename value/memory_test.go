package value_test

import (
	"bytes"
	"testing"

	"outpost/api"
	"outpost/value"
)

// turn turns every byte of a list, spare room too.
func turn(b []byte) {
	for i := range b[:cap(b)] {
		b[:cap(b)][i] ^= 255
	}
}

// P14.3: what is handed in stays, behind its length too, and may be written over; answers are nobody else's, spare room too.
func TestMemory(t *testing.T) {
	asBytes := func(v value.Value, e api.Errno) []byte {
		b, ok := v.(value.Bytes)
		if !ok || e != api.OK {
			t.Errorf("%T, %d: not a Bytes", v, e)
		}
		return b
	}
	for what, call := range map[string]func(b []byte) []byte{
		"Of":        func(b []byte) []byte { return asBytes(value.Of(api.Val{Kind: api.KBytes, B: b})) },
		"Val":       func(b []byte) []byte { return value.Val(value.Bytes(b)).B },
		"MustBytes": func(b []byte) []byte { return value.MustBytes(value.Bytes(b)) },
		"Wire":      func(b []byte) []byte { return value.Wire(value.Bytes(b)) },
		"Unwire":    func(b []byte) []byte { return asBytes(value.Unwire(api.KBytes, b)) },
		"Unwire of a text": func(b []byte) []byte {
			v, _ := value.Unwire(api.KText, b)
			s, _ := value.Words(v)
			return []byte(s)
		},
		"Wire of a text": func(b []byte) []byte { return value.Wire(value.Text(b)) },
		"Same and Fits": func(b []byte) []byte {
			if !value.Same(value.Bytes(b), value.Bytes(b)) || value.Fits(api.Rule{Kind: api.KBytes, Most: 99}, value.Bytes(b)) != api.OK {
				t.Error("Same, Fits")
			}
			return bytes.Clone(b)
		},
	} {
		for n := range 9 {
			row := []byte("abcdefghispare room")
			before := bytes.Clone(row)
			first, second := call(row[:n]), call(row[:n])
			if !bytes.Equal(row, before) || !bytes.Equal(first, before[:n]) {
				t.Errorf("%s of %d bytes: %q, turned to %q", what, n, first, row)
			}
			turn(first)
			_ = append(first, "more"...)
			if !bytes.Equal(row, before) || !bytes.Equal(second, before[:n]) {
				t.Errorf("%s of %d bytes: an answer shares memory", what, n)
			}
			clear(row)
			if !bytes.Equal(second, before[:n]) {
				t.Errorf("%s of %d bytes: an argument is kept", what, n)
			}
		}
	}
}

// P14.3: each number's, truth's and link's bytes are a list of their own.
func TestMemoryOfWire(t *testing.T) {
	for _, v := range []value.Value{value.Int(1), value.Int(-300), value.Time(1 << 40), value.Bool(true), value.Bool(false), value.Link{Obj: 5, Inst: 258}} {
		first, second := value.Wire(v), value.Wire(v)
		before := bytes.Clone(second)
		turn(first)
		if !bytes.Equal(second, before) || !bytes.Equal(value.Wire(v), before) {
			t.Errorf("Wire of %T %v: two answers share memory", v, v)
		}
	}
}
