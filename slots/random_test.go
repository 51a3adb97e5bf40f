package slots_test

import (
	"bytes"
	"math/rand"
	"testing"

	"outpost/api"
	"outpost/slots"
)

// anImage is an image of some version, or bytes that are nearly one.
func anImage(r *rand.Rand) []byte {
	body := make([]byte, r.Intn(100))
	r.Read(body)
	img := whole(uint32(r.Intn(6)), string(body))
	switch r.Intn(12) {
	case 0:
		img[r.Intn(len(img))] ^= 1 << r.Intn(8)
	case 1:
		img = img[:r.Intn(len(img))]
	case 2:
		img = append(img, byte(r.Intn(256)))
	case 3:
		img[r.Intn(4)] ^= 1 << r.Intn(8)
	case 4:
		img = raw(3, 1<<20+uint32(r.Intn(3)), [32]byte{}, body)
	}
	return img
}

// both are slots and their model, to which the same is done.
type both struct {
	device
	s    *slots.Slots
	m    model
	todo []byte // what is still to come of an image
}

// step does something, and tells of what both answer.
func (b *both) step(r *rand.Rand) (what string, got, want [2]any) {
	switch r.Intn(20) {
	case 0, 1:
		b.todo = anImage(r)
		size := len(b.todo)
		if r.Intn(5) == 0 {
			size = []int{-1, 0, 63, 64, 128, 129, 192, 193, size + 1}[r.Intn(9)]
		}
		return "Begin", [2]any{b.s.Begin(size)}, [2]any{b.m.begin(size)}
	case 2, 3, 4, 5, 6, 7:
		n := min(r.Intn(70), len(b.todo))
		piece := b.todo[:n]
		b.todo = b.todo[n:]
		return "Write", [2]any{b.s.Write(piece)}, [2]any{b.m.write(piece)}
	case 8, 9, 10, 11:
		h, e := b.s.Finish()
		h2, e2 := b.m.finish()
		return "Finish", [2]any{h, e}, [2]any{h2, e2}
	case 12, 13:
		return "Arm", [2]any{b.s.Arm()}, [2]any{b.m.arm()}
	case 14, 15:
		n, e := b.s.Select()
		n2, e2 := b.m.choose()
		return "Select", [2]any{n, e}, [2]any{n2, e2}
	case 16, 17:
		return "Confirm", [2]any{b.s.Confirm()}, [2]any{b.m.confirm()}
	case 18:
		b.s = b.boot()
		b.m.boot()
		return "New", got, want
	}
	if r.Intn(3) > 0 {
		b.s.Stop()
		b.m.stop()
		return "Stop", got, want
	}
	if slot := r.Intn(2); !b.m.writing { // somebody else spoils a slot
		at := r.Intn(len(b.m.slots[slot]))
		b.slot(slot).Write(at, []byte{0})
		b.m.slots[slot][at] = 0
	}
	return "spoilt", got, want
}

// P7.1, P7.2: whatever is done, all is as the model has it, byte by byte; the active slot's bytes are never turned.
func TestAgainstAModel(t *testing.T) {
	seen := map[[2]any]int{}
	for seed := range 300 {
		r := rand.New(rand.NewSource(int64(seed)))
		b := &both{device: newDevice(t, 3, 2, whole(1, "one"), whole(2, "two")[:66-r.Intn(2)*66])}
		b.s, b.m = b.boot(), model{slots: b.bytes()}
		for range 150 {
			active, before := b.m.active, b.bytes()
			what, got, want := b.step(r)
			seen[[2]any{what, want[0]}]++
			if got != want {
				t.Fatalf("seed %d: %s: %v, want %v", seed, what, got, want)
			}
			state := [5]int{b.s.Active(), b.s.Phase(), b.s.Running(), b.s.Other(), b.s.Got()}
			if want := [5]int{b.m.active, b.m.phase, b.m.running, 1 - b.m.active, len(b.m.come)}; state != want {
				t.Fatalf("seed %d: behind %s: %v, want %v", seed, what, state, want)
			}
			now := b.bytes()
			for slot := range 2 {
				if !bytes.Equal(now[slot], b.m.slots[slot]) {
					t.Fatalf("seed %d: behind %s: slot %d has %v, want %v", seed, what, slot, now[slot], b.m.slots[slot])
				}
				has(t, what, b.s, slot, b.m.valid(slot))
			}
			if what != "spoilt" && !bytes.Equal(now[active], before[active]) {
				t.Fatalf("seed %d: %s turns the active slot", seed, what)
			}
			if t.Failed() {
				t.Fatalf("seed %d", seed)
			}
		}
	}
	for _, c := range []struct {
		what string
		all  []api.Errno
	}{
		{"Begin", []api.Errno{api.OK, api.ErrState, api.ErrSize}},
		{"Write", []api.Errno{api.OK, api.ErrState, api.ErrLong, api.ErrMagic, api.ErrSum, api.ErrForm, api.ErrSize}},
		{"Arm", []api.Errno{api.OK, api.ErrState, api.ErrNone}},
		{"Confirm", []api.Errno{api.OK, api.ErrState}},
	} {
		for _, e := range c.all {
			if seen[[2]any{c.what, e}] < 3 {
				t.Errorf("%s: hardly ever %d", c.what, e)
			}
		}
	}
}
