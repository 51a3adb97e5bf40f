package fw_test

import (
	"bytes"
	"testing"
	"unsafe"

	"outpost/api"
	"outpost/block"
)

// P23.4, P1: what is handed in stays, behind its length too, and may be written over.
func TestMemory(t *testing.T) {
	img := made(2, 150)
	for _, size := range []int{16, 64, 128} {
		for _, pull := range []bool{false, true} {
			if pull && size != 64 {
				continue
			}
			u := newDevice(t, made(1, 3)).boot()
			if pull {
				u.answers("SetURI", u.SetURI("coap://h/x"), api.Changed)
			}
			for n := 0; n*size < len(img); n++ {
				data, more, _ := block.Cut(img, n, size)
				row := append(bytes.Clone(data), "behind its length"...)
				was := bytes.Clone(row)
				is := block.Block{Num: n, More: more, Size: size}
				if pull {
					u.answers("Pulled", int(u.Pulled(is, row[:len(data)])), int(api.OK))
				} else {
					u.answers("Push", u.Push(is, row[:len(data)]), map[bool]int{true: api.Continue, false: api.Changed}[more])
				}
				if !bytes.Equal(row, was) {
					t.Error("what was handed in is turned")
				}
				for i := range row {
					row[i] = 0xEE
				}
			}
			if u.State() != 2 || !u.s.Same(1, img) {
				t.Errorf("blocks of %d: it isn't there", size)
			}
		}
	}
	letters := []byte("coap://h/x")
	u := newDevice(t, made(1, 3)).boot()
	u.answers("SetURI", u.SetURI(unsafe.String(&letters[0], len(letters))), api.Changed)
	copy(letters, "xxxxxxxxxx")
	if u.URI() != "coap://h/x" {
		t.Errorf("URI %q", u.URI())
	}
}
