package slots_test

import (
	"bytes"
	"math/rand"
	"testing"

	"outpost/api"
	"outpost/journal"
	"outpost/slots"
)

// update does all that brings an image from a server to where it is confirmed; it ends at the first error.
func update(s *slots.Slots, img []byte) api.Errno {
	if _, e := s.Select(); e != api.OK {
		return e
	}
	if e := s.Begin(len(img)); e != api.OK {
		return e
	}
	for len(img) > 0 {
		n := min(50, len(img))
		if e := s.Write(img[:n]); e != api.OK {
			return e
		}
		img = img[n:]
	}
	if _, e := s.Finish(); e != api.OK {
		return e
	}
	if e := s.Arm(); e != api.OK {
		return e
	}
	if _, e := s.Select(); e != api.OK {
		return e
	}
	return s.Confirm()
}

// P7.2, P3: wherever the power goes in an update, a valid slot runs behind the next boot, with the old image or the new one.
func TestCutsOfAnUpdate(t *testing.T) {
	one, two := whole(1, "one"), whole(2, "the second one")
	for active := range 2 {
		images := [][]byte{one, nil}
		if active == 1 {
			images = [][]byte{ones(192), one}
		}
		news := 0
		for cut := 0; ; cut++ {
			d := newDevice(t, 3, 3, images...).keeping(byte(active), 0)
			s := d.boot()
			before := d.bytes()[active]
			d.flash.Cut(cut)
			e := update(s, two)
			if e != api.OK && e != api.ErrDown {
				t.Fatalf("cut %d: %d", cut, e)
			}
			d.flash.Restore()
			if !bytes.Equal(d.bytes()[active], before) {
				t.Fatalf("cut %d: the active slot's bytes are turned", cut)
			}
			s = d.boot()
			was, phase := s.Active(), s.Phase()
			run, err := s.Select()
			expect(t, "Select", err, api.OK)
			want := was
			if phase == 1 {
				want = 1 - was
			}
			if run != want || was != active && phase != 0 {
				t.Fatalf("cut %d: %d runs behind %d, %d", cut, run, was, phase)
			}
			has(t, "what runs", s, run, map[bool][]byte{true: one, false: two}[run == active])
			if run != active {
				news++
			}
			if e == api.OK {
				expect(t, "confirmed", s.Active(), 1-active)
				break
			}
			s = d.boot()
			s.Select()
			if phase != 0 {
				stands(t, "not confirmed", s, active, 0, active)
			}
			if s.Active() == active { // and it goes on
				expect(t, "once more", update(d.boot(), two), api.OK)
			}
			has(t, "at last", d.boot(), 1-active, two)
		}
		if news != 9+1 { // while Select writes that it is tried, and behind all
			t.Errorf("the new image ran behind %d cuts", news)
		}
	}
}

// P7.2: each call that the power cuts has what is kept as ahead of it, or as behind it.
func TestCutsOfWhatIsKept(t *testing.T) {
	for _, c := range []struct {
		what         string
		from         [2]byte
		images       [2][]byte
		call         func(s *slots.Slots) api.Errno
		active, then int
	}{
		{"Arm", [2]byte{1, 0}, [2][]byte{whole(1, "one"), whole(2, "two")}, (*slots.Slots).Arm, 1, 1},
		{"a trial", [2]byte{1, 1}, [2][]byte{whole(1, "one"), whole(2, "two")}, selected, 1, 2},
		{"not confirmed", [2]byte{1, 2}, [2][]byte{whole(1, "one"), whole(2, "two")}, selected, 1, 0},
		{"the other one", [2]byte{1, 0}, [2][]byte{whole(1, "one"), nil}, selected, 0, 0},
	} {
		for cut := range 10 {
			d := newDevice(t, 3, 3, c.images[0], c.images[1]).keeping(c.from[:]...)
			s := d.boot()
			d.flash.Cut(cut)
			e := c.call(s)
			active, phase := int(c.from[0]), int(c.from[1])
			if cut == 9 {
				active, phase = c.active, c.then
			}
			expect(t, c.what, e == api.OK, cut == 9)
			expect(t, c.what, e == api.ErrDown, cut < 9)
			if got := [2]int{s.Active(), s.Phase()}; got != [2]int{active, phase} {
				t.Errorf("%s, cut %d: %v", c.what, cut, got)
			}
			d.flash.Restore()
			s = d.boot()
			stands(t, c.what+", made anew", s, active, phase, active)
		}
	}
	for cut := range 10 {
		d := newDevice(t, 3, 3, whole(1, "one"), whole(2, "two")).keeping(0, 1)
		s := d.boot()
		selects(t, "a trial", s, 1, api.OK)
		d.flash.Cut(cut)
		e := s.Confirm()
		expect(t, "Confirm", e == api.OK, cut == 9)
		expect(t, "Confirm", e == api.ErrDown, cut < 9)
		d.flash.Restore()
		s = d.boot()
		selects(t, "behind Confirm", s, cut/9, api.OK)
		stands(t, "behind Confirm", s, cut/9, 0, cut/9)
	}
}

// selected is Select's error.
func selected(s *slots.Slots) api.Errno {
	_, e := s.Select()
	return e
}

// P7.2, P7.3, P3: losses of power one behind the other, whatever is written: a valid slot runs, and one that is active stays so till another is confirmed.
func TestManyCuts(t *testing.T) {
	confirmed := 0
	for seed := range 200 {
		r := rand.New(rand.NewSource(int64(seed)))
		d := newDevice(t, 3, 3, whole(1, "one"))
		for range 40 {
			d.flash.Restore()
			if r.Intn(4) > 0 {
				d.flash.Cut(r.Intn(600))
			}
			j, e := journal.Open(d.a, d.b)
			if e == api.ErrDown {
				continue
			}
			expect(t, "the journal", e, api.OK)
			s := slots.New(d.c, d.d, j)
			active, before := s.Active(), d.bytes()
			_, e = s.Select()
			if e == api.OK {
				for range r.Intn(8) {
					img := anImage(r)
					if r.Intn(2) == 0 {
						img = whole(uint32(1+r.Intn(100)), "later")
					}
					e = []func() api.Errno{func() api.Errno { return update(s, img) }, s.Arm, s.Confirm, func() api.Errno { return selected(s) }}[r.Intn(4)]()
					if e == api.OK && s.Active() != active {
						confirmed++
						break
					}
				}
			}
			d.flash.Restore()
			if !bytes.Equal(d.bytes()[active], before[active]) {
				t.Fatalf("seed %d: the active slot's bytes are turned", seed)
			}
			s = d.boot()
			n, e := s.Select()
			if _, ok := s.Valid(n); e != api.OK || !ok {
				t.Fatalf("seed %d: no valid slot runs: %d", seed, e)
			}
		}
	}
	if confirmed < 50 {
		t.Errorf("only %d were confirmed", confirmed)
	}
}
