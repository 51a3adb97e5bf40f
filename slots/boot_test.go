package slots_test

import (
	"bytes"
	"testing"

	"outpost/api"
	"outpost/flash"
	"outpost/image"
	"outpost/journal"
	"outpost/part"
	"outpost/slots"
)

// P7.1: Arm's errors in their order.
func TestArm(t *testing.T) {
	img := whole(1, "one")
	for active := range 2 {
		for phase := range 3 {
			for _, valid := range []bool{true, false} {
				images := [2][]byte{img, img}
				if !valid {
					images[1-active] = img[:66]
				}
				d := newDevice(t, 3, 3, images[0], images[1]).keeping(byte(active), byte(phase))
				s := d.boot()
				want, then := api.ErrState, phase
				switch {
				case phase == 0 && valid:
					want, then = api.OK, 1
				case phase == 0:
					want = api.ErrNone
				}
				expect(t, "Arm", s.Arm(), want)
				stands(t, "behind Arm", s, active, then, active)
				stands(t, "behind Arm, made anew", d.boot(), active, then, active)
				d.goDown()
				expect(t, "down", s.Arm(), api.ErrDown)
			}
		}
	}
	s := newDevice(t, 3, 3, img).boot()
	expect(t, "Begin", s.Begin(len(img)), api.OK)
	expect(t, "the other slot isn't valid, and is written", s.Arm(), api.ErrState)
	expect(t, "Write", s.Write(img), api.OK)
	expect(t, "it is valid, and is written", s.Arm(), api.ErrState)
	s.Stop()
	expect(t, "it is valid, and no more written", s.Arm(), api.OK)
	expect(t, "armed", s.Arm(), api.ErrState)
	s = newDevice(t, 3, 3, nil, img).boot()
	expect(t, "the active slot isn't valid", s.Arm(), api.OK)
}

// chosen is what Select is to do, by the words: of what is kept, and of which slots are valid (the active one, the other).
func chosen(active, phase int, first, second bool) (int, int, int, api.Errno) {
	switch {
	case phase == 1 && second:
		return active, 2, 1 - active, api.OK
	case first:
		return active, 0, active, api.OK
	case second:
		return 1 - active, 0, 1 - active, api.OK
	}
	return active, phase, active, api.ErrNone
}

// P7.1, P7.3: Select of all that may be kept, and of slots that are valid or not; what is kept is written if it changes.
func TestSelect(t *testing.T) {
	for n := range 2 * 3 * 4 {
		active, phase, first, second := n%2, n/2%3, n/6%2 == 1, n/12 == 1
		images := [2][]byte{whole(1, "one"), whole(2, "two")}
		if !first {
			images[active] = images[active][:66]
		}
		if !second {
			images[1-active] = images[1-active][:66]
		}
		d := newDevice(t, 3, 3, images[0], images[1]).keeping(byte(active), byte(phase))
		s := d.boot()
		before, turned := d.bytes(), d.flash.Turned()
		nextActive, nextPhase, run, want := chosen(active, phase, first, second)
		answered := run
		if want != api.OK {
			answered = 0
		}
		selects(t, "Select", s, answered, want)
		stands(t, "Select", s, nextActive, nextPhase, run)
		stands(t, "Select, made anew", d.boot(), nextActive, nextPhase, nextActive)
		expect(t, "what is kept is written", d.flash.Turned() > turned, nextActive != active || nextPhase != phase)
		if now := d.bytes(); !bytes.Equal(now[0], before[0]) || !bytes.Equal(now[1], before[1]) {
			t.Error("Select turns a slot's bytes")
		}
		if nextPhase == 0 && want == api.OK { // twice is the same as once
			turned = d.flash.Turned()
			selects(t, "twice", s, run, api.OK)
			selects(t, "twice, made anew", d.boot(), run, api.OK)
			expect(t, "twice: bytes turned", d.flash.Turned(), turned)
		}
		wantConfirm := api.ErrState
		if nextPhase == 2 && run != nextActive {
			wantConfirm = api.OK
		}
		expect(t, "Confirm", s.Confirm(), wantConfirm)
		if wantConfirm == api.OK {
			stands(t, "confirmed", s, run, 0, run)
			expect(t, "Confirm, twice", s.Confirm(), api.ErrState)
			stands(t, "confirmed, made anew", d.boot(), run, 0, run)
		}
	}
}

// P7.1: Confirm is of phase 2, while the other slot runs.
func TestConfirm(t *testing.T) {
	for active := range 2 {
		for phase := range 3 {
			d := newDevice(t, 3, 3, whole(1, "one"), whole(2, "two")).keeping(byte(active), byte(phase))
			s := d.boot()
			expect(t, "the active slot runs", s.Confirm(), api.ErrState)
			stands(t, "the active slot runs", s, active, phase, active)
			d.goDown()
			expect(t, "the active slot runs, down", s.Confirm(), api.ErrState)
		}
		d := newDevice(t, 3, 3, whole(1, "one"), whole(2, "two")).keeping(byte(active), 1)
		s := d.boot()
		selects(t, "a trial", s, 1-active, api.OK)
		d.goDown()
		expect(t, "a trial, down", s.Confirm(), api.ErrDown)
		stands(t, "a trial, down", s, active, 2, 1-active)
	}
}

// P7.3: an armed image that isn't confirmed runs once, however often it is booted, and may be armed again.
func TestOnce(t *testing.T) {
	for anew := range 2 {
		d := newDevice(t, 3, 3, whole(1, "one"), whole(2, "two"))
		s := d.boot()
		for range 3 {
			expect(t, "Arm", s.Arm(), api.OK)
			var ran []int
			for range 4 {
				if anew == 1 {
					s = d.boot()
				}
				n, e := s.Select()
				expect(t, "Select", e, api.OK)
				expect(t, "Running", s.Running(), n)
				ran = append(ran, n)
			}
			if [4]int(ran) != [4]int{1, 0, 0, 0} {
				t.Errorf("what ran: %v", ran)
			}
		}
	}
}

// P7.1: the journal's errors, beside all: it is full of others' values. What is kept and what runs stays.
func TestFullJournal(t *testing.T) {
	d := newDevice(t, 3, 3, whole(1, "one"), whole(2, "two"))
	expect(t, "Put of another", d.journal().Put(1, make([]byte, 64-8-7)), api.OK)
	s := d.boot()
	expect(t, "Arm", s.Arm(), api.ErrFull)
	stands(t, "full", s, 0, 0, 0)
	selects(t, "nothing changes", s, 0, api.OK)
	d = newDevice(t, 3, 3, nil, whole(2, "two"))
	expect(t, "Put of another", d.journal().Put(1, make([]byte, 64-8-7)), api.OK)
	s = d.boot()
	selects(t, "what is kept changes", s, 0, api.ErrFull)
	stands(t, "full", s, 0, 0, 0)
}

// P7.1: the journal's errors, beside all: there is no greater epoch. What is kept and what runs stays.
func TestGreatestEpoch(t *testing.T) {
	// most is a device whose journal has the greatest epoch, keeps slot 0 and a phase, and has no room for one record more.
	most := func(phase byte) *slots.Slots {
		d := newDevice(t, 3, 3, whole(1, "one"), whole(2, "two"))
		d.flash.Load([]byte{0, 255, 255, 255, 255})
		j := d.keeping(0, phase).journal()
		s := slots.New(d.c, d.d, j)
		if phase == 2 {
			expect(t, "Put", j.Put(0, []byte{0, 1}), api.OK)
			selects(t, "a trial", s, 1, api.OK)
		}
		for j.Room() >= 9 {
			expect(t, "Put of another", j.Put(1, []byte{byte(j.Room())}), api.OK)
		}
		return s
	}
	s := most(0)
	expect(t, "Arm", s.Arm(), api.ErrMany)
	stands(t, "Arm", s, 0, 0, 0)
	selects(t, "nothing changes", s, 0, api.OK)
	s = most(1)
	selects(t, "armed", s, 0, api.ErrMany)
	stands(t, "armed", s, 0, 1, 0)
	s = most(2)
	expect(t, "Confirm", s.Confirm(), api.ErrMany)
	stands(t, "Confirm", s, 0, 2, 1)
	selects(t, "tried", s, 0, api.ErrMany)
	stands(t, "tried", s, 0, 2, 1)
}

// P7.1: while the power has gone, whatever was called ahead.
func TestDown(t *testing.T) {
	img := whole(3, "three")
	for phase := range 3 {
		for come := range 3 {
			d := newDevice(t, 3, 3, whole(1, "one"), whole(2, "two")).keeping(0, byte(phase))
			s := d.boot()
			if phase == 0 && come > 0 {
				expect(t, "Begin", s.Begin(len(img)), api.OK)
				expect(t, "Write", s.Write(img[:(come-1)*len(img)]), api.OK)
			}
			d.goDown()
			for slot := range 2 {
				has(t, "down", s, slot, nil)
				expect(t, "down, Same", s.Same(slot, whole(uint32(slot+1), []string{"one", "two"}[slot])), false)
			}
			expect(t, "down, Arm", s.Arm(), api.ErrDown)
			stands(t, "down", s, 0, phase, 0)
			expect(t, "down, Begin", s.Begin(len(img)), api.ErrDown)
			expect(t, "down, Write", s.Write(nil), api.ErrDown)
			finishes(t, "down", s, image.Head{}, api.ErrDown)
			selects(t, "down", s, 0, api.ErrDown)
			d.flash.Restore()
			expect(t, "restored, Write", s.Write(nil), api.ErrState)
			finishes(t, "restored", s, image.Head{}, api.ErrState)
		}
	}
}

// P7.1: behind ErrDown of any call none is being written.
func TestNoneIsWrittenBehindErrDown(t *testing.T) {
	img := whole(3, "three")
	for i, call := range []func(s *slots.Slots) api.Errno{
		func(s *slots.Slots) api.Errno { return s.Begin(len(img)) },
		func(s *slots.Slots) api.Errno { return s.Write(img[60:]) },
		func(s *slots.Slots) api.Errno { _, e := s.Finish(); return e },
		(*slots.Slots).Arm,
		func(s *slots.Slots) api.Errno { _, e := s.Select(); return e },
	} {
		d := newDevice(t, 3, 3, whole(1, "one"))
		s := d.boot()
		expect(t, "Begin", s.Begin(len(img)), api.OK)
		expect(t, "Write", s.Write(img[:60]), api.OK)
		d.flash.Cut(5)
		if i > 1 { // of calls that turn nothing
			d.flash.Cut(0)
			d.flash.Erase(0)
		}
		expect(t, "the power goes", call(s), api.ErrDown)
		expect(t, "Got", s.Got(), 0)
		d.flash.Restore()
		expect(t, "Write", s.Write(nil), api.ErrState)
		if i == 1 && !bytes.Equal(d.bytes()[1][:65], img[:65]) {
			t.Error("what came ahead of the cut isn't there")
		}
	}
}

// P7.1: behind ErrDown of Confirm, too, though it is another that made it a trial.
func TestNoneIsWrittenBehindConfirm(t *testing.T) {
	d := newDevice(t, 3, 3, whole(1, "one"))
	j := d.journal()
	s := slots.New(d.c, d.d, j)
	expect(t, "Begin", s.Begin(70), api.OK)
	expect(t, "Write", s.Write([]byte("OTPX")), api.OK)
	expect(t, "Put of another", j.Put(0, []byte{1, 2}), api.OK)
	d.flash.Cut(3)
	expect(t, "Confirm", s.Confirm(), api.ErrDown)
	d.flash.Restore()
	expect(t, "Got", s.Got(), 0)
	expect(t, "Write", s.Write(nil), api.ErrState)
}

// P7.1: the power of one of them is the power of all.
func TestFlashesOfTheirOwn(t *testing.T) {
	img := whole(1, "one")
	for which := range 3 {
		groups, first, second := flash.New(2, 64), flash.New(3, 64), flash.New(3, 64)
		a, _ := part.New(groups, 0, 1)
		b, _ := part.New(groups, 1, 1)
		c, _ := part.New(first, 0, 3)
		d, _ := part.New(second, 0, 3)
		c.Write(0, img)
		d.Write(0, img)
		j, _ := journal.Open(a, b)
		s := slots.New(c, d, j)
		f := []*flash.Flash{groups, first, second}[which]
		f.Cut(0)
		f.Erase(0)
		expect(t, "Begin", s.Begin(64), api.ErrDown)
		expect(t, "Write", s.Write(nil), api.ErrDown)
		finishes(t, "down", s, image.Head{}, api.ErrDown)
		expect(t, "Arm", s.Arm(), api.ErrDown)
		selects(t, "down", s, 0, api.ErrDown)
		has(t, "down", s, 0, nil)
		f.Restore()
		has(t, "restored", s, 0, img)
		has(t, "restored", s, 1, img)
	}
}

// P1: parts and journals that aren't there, or were never made, have no bytes and no room; nothing panics.
func TestWhatIsNotThere(t *testing.T) {
	img := whole(1, "one")
	d := newDevice(t, 3, 3, img, img)
	for i, c := range []struct {
		a, b           *part.Part
		j              *journal.Journal
		begin, arm     api.Errno
		run            int
		selected, then api.Errno
	}{
		{nil, nil, nil, api.ErrSize, api.ErrNone, 0, api.ErrNone, api.ErrState},
		{nil, nil, d.journal(), api.ErrSize, api.ErrNone, 0, api.ErrNone, api.ErrState},
		{d.c, nil, nil, api.ErrSize, api.ErrNone, 0, api.OK, api.ErrState},
		{d.c, nil, d.journal(), api.ErrSize, api.ErrNone, 0, api.OK, api.ErrState},
		{nil, d.d, nil, api.OK, api.ErrNone, 0, api.ErrNone, api.OK},
		{d.c, d.c, &journal.Journal{}, api.OK, api.ErrNone, 0, api.ErrNone, api.OK},
		{&part.Part{}, d.d, d.journal(), api.ErrDown, api.ErrDown, 0, api.ErrDown, api.ErrDown},
		{d.c, &part.Part{}, d.journal(), api.ErrDown, api.ErrDown, 0, api.ErrDown, api.ErrDown},
	} {
		s := slots.New(c.a, c.b, c.j)
		stands(t, "not there", s, 0, 0, 0)
		if e := s.Begin(64); e != c.begin {
			t.Errorf("case %d: Begin: %d, want %d", i, e, c.begin)
		}
		if e := s.Write(nil); e != c.then {
			t.Errorf("case %d: Write: %d, want %d", i, e, c.then)
		}
		s.Finish()
		s.Stop()
		if e := s.Arm(); e != c.arm {
			t.Errorf("case %d: Arm: %d, want %d", i, e, c.arm)
		}
		if n, e := s.Select(); n != c.run || e != c.selected {
			t.Errorf("case %d: Select: %d, %d, want %d, %d", i, n, e, c.run, c.selected)
		}
		expect(t, "Confirm", s.Confirm(), api.ErrState)
	}
	s := slots.New(d.d, newDevice(t, 3, 3, nil, img).d, nil)
	expect(t, "Arm, without a journal", s.Arm(), api.ErrFull)
	s = &slots.Slots{}
	stands(t, "never made", s, 0, 0, 0)
	expect(t, "never made", s.Begin(64), api.ErrSize)
	selects(t, "never made", s, 0, api.ErrNone)
}

// P7.4: answers are new memory, spare room too; what is handed in may be written over.
func TestMemory(t *testing.T) {
	one, two := whole(1, "one"), whole(2, "two")
	d := newDevice(t, 3, 3, one)
	s := d.boot()
	expect(t, "Begin", s.Begin(len(two)), api.OK)
	room := append(bytes.Clone(two), "more"...)
	for i := 0; i < len(two); i += 60 {
		piece := room[i:min(i+60, len(two))]
		expect(t, "Write", s.Write(piece), api.OK)
		if !bytes.Equal(room[i:], append(bytes.Clone(two[i:]), "more"...)) {
			t.Error("an argument is turned")
		}
		for k := range piece {
			piece[k] = 0
		}
	}
	finishes(t, "what was handed in is written over", s, headOf(two), api.OK)
	has(t, "what was handed in is written over", s, 1, two)
	for slot, img := range [][]byte{one, two} {
		b, _ := s.Bytes(slot)
		again, _ := s.Bytes(slot)
		for k := range b[:cap(b)] {
			b[:cap(b)][k] = 0
		}
		if !bytes.Equal(again, img) {
			t.Error("two answers share memory")
		}
		has(t, "an answer is written over", s, slot, img)
		expect(t, "Same", s.Same(slot, again), true)
		if !bytes.Equal(again, img) {
			t.Error("an argument is turned")
		}
	}
}
