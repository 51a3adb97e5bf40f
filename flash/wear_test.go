package flash

import (
	"testing"

	"outpost/api"
)

// P3.1: wear is counted up to MaxWear. (Erases that begin as often as that take too long: the count is set ahead.)
func TestWearIsBounded(t *testing.T) {
	f := New(2, 16)
	f.wear[1] = api.MaxWear - 1
	for range 3 {
		if e := f.Erase(1); e != api.OK || f.Wear(1) != api.MaxWear || f.Wear(0) != 0 {
			t.Errorf("%d: wear %d", e, f.Wear(1))
		}
	}
	f.Cut(0)
	if e := f.Erase(1); e != api.ErrDown || f.Wear(1) != api.MaxWear {
		t.Errorf("%d: wear %d", e, f.Wear(1))
	}
}
