package reg_test

import (
	"slices"
	"testing"
	"unsafe"

	"outpost/reg"
)

// P24.4: what is handed in stays, behind its length too, and may be written over, list and texts; what is answered is nobody else's.
func TestMemory(t *testing.T) {
	letters := []byte("rdab")
	texts := []string{unsafe.String(&letters[0], 2), unsafe.String(&letters[2], 1), "spare", "room"}
	l := in(t, joining)
	wants(t, "Answer", l.Answer(65, texts[:2], 0), none)
	if !slices.Equal(texts, []string{"rd", "a", "spare", "room"}) || string(letters) != "rdab" {
		t.Errorf("what was handed in is turned: %q", texts)
	}
	texts[0], texts[1] = "x", "y"
	copy(letters, "zzzz")
	for range 3 {
		stands(t, "written over", l, joined, 90, "rd", "a")
		first, second := l.Place(), l.Place()
		for _, own := range [][]string{first[:cap(first)], second[:cap(second)]} {
			for i := range own {
				own[i] = "turned"
			}
		}
		wants(t, "Renew", l.Renew(100, 0), renew)
		stands(t, "renewed", l, renewing, -1, "rd", "a")
		wants(t, "Answer", l.Answer(68, texts, 0), none)
	}
}

// P1: a life that New didn't make is one that is off.
func TestZero(t *testing.T) {
	for state := range 8 {
		l := &reg.Life{}
		stands(t, "zero", l, off, -1)
		for i, c := range calls() {
			if i%8 == state {
				c.do(l)
			}
		}
	}
	l := &reg.Life{}
	wants(t, "Start", l.Start(true, 100, 0), join)
	stands(t, "started", l, joining, -1)
}
