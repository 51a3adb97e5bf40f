package slots_test

import (
	"bytes"
	"math"
	"slices"
	"testing"

	"outpost/api"
	"outpost/flash"
	"outpost/image"
	"outpost/journal"
	"outpost/part"
	"outpost/slots"
)

func expect(t *testing.T, what string, got, want any) {
	t.Helper()
	if got != want {
		t.Errorf("%s: %v, want %v", what, got, want)
	}
}

// device is a flash with a journal's groups (sectors 0 and 1) and two slots behind them.
type device struct {
	t          *testing.T
	flash      *flash.Flash
	a, b, c, d *part.Part
}

// newDevice is one whose slots have so many sectors of 64 bytes, and begin with these bytes.
func newDevice(t *testing.T, first, second int, images ...[]byte) device {
	t.Helper()
	d := device{t: t, flash: flash.New(2+first+second, 64)}
	for i, p := range []**part.Part{&d.a, &d.b, &d.c, &d.d} {
		var e api.Errno
		begin, count := [4]int{0, 1, 2, 2 + first}[i], [4]int{1, 1, first, second}[i]
		if *p, e = part.New(d.flash, begin, count); e != api.OK {
			t.Fatal(e)
		}
	}
	for i, b := range images {
		if e := d.slot(i).Write(0, b); e != api.OK {
			t.Fatal(e)
		}
	}
	return d
}

func (d device) slot(i int) *part.Part { return [2]*part.Part{d.c, d.d}[i] }

func (d device) journal() *journal.Journal {
	d.t.Helper()
	j, e := journal.Open(d.a, d.b)
	if e != api.OK {
		d.t.Fatalf("the journal: %d", e)
	}
	return j
}

// boot opens the journal and makes the slots.
func (d device) boot() *slots.Slots {
	d.t.Helper()
	return slots.New(d.c, d.d, d.journal())
}

// keeping is the device, with a value kept by the key 0.
func (d device) keeping(val ...byte) device {
	d.t.Helper()
	if e := d.journal().Put(0, val); e != api.OK {
		d.t.Fatal(e)
	}
	return d
}

// bytes are what the slots have.
func (d device) bytes() (all [2][]byte) {
	b := d.flash.Image()[128:]
	return [2][]byte{b[:d.c.Size()], b[d.c.Size():]}
}

// goDown lets the power go, and turns nothing.
func (d device) goDown() {
	d.flash.Cut(0)
	d.flash.Erase(0)
}

// stands tells of all that can be asked of slots that aren't being written.
func stands(t *testing.T, what string, s *slots.Slots, active, phase, running int) {
	t.Helper()
	got := [5]int{s.Active(), s.Phase(), s.Running(), s.Other(), s.Got()}
	if want := [5]int{active, phase, running, 1 - active, 0}; got != want {
		t.Errorf("%s: active, phase, running, other, got: %v, want %v", what, got, want)
	}
}

// has tells of a slot's image; nil: it isn't valid.
func has(t *testing.T, what string, s *slots.Slots, slot int, want []byte) {
	t.Helper()
	h, ok := s.Valid(slot)
	b, also := s.Bytes(slot)
	if ok != (want != nil) || also != ok || !bytes.Equal(b, want) || !ok && (h != image.Head{} || b != nil) {
		t.Errorf("%s: slot %d: %v, %v, %d bytes, %v, want %d bytes", what, slot, h, ok, len(b), also, len(want))
	}
	if ok && h != headOf(want) {
		t.Errorf("%s: slot %d: %v, want %v", what, slot, h, headOf(want))
	}
	expect(t, what+": Same of it", s.Same(slot, want), want != nil)
	expect(t, what+": Same of nothing", s.Same(slot, nil), false)
}

func selects(t *testing.T, what string, s *slots.Slots, want int, wrong api.Errno) {
	t.Helper()
	if n, e := s.Select(); n != want || e != wrong {
		t.Errorf("%s: Select: %d, %d, want %d, %d", what, n, e, want, wrong)
	}
}

func finishes(t *testing.T, what string, s *slots.Slots, want image.Head, wrong api.Errno) {
	t.Helper()
	if h, e := s.Finish(); h != want || e != wrong {
		t.Errorf("%s: Finish: %v, %d, want %v, %d", what, h, e, want, wrong)
	}
}

// deliver writes an image in pieces of so many bytes, and finishes it.
func deliver(t *testing.T, s *slots.Slots, img []byte, size int) {
	t.Helper()
	expect(t, "Begin", s.Begin(len(img)), api.OK)
	for piece := range slices.Chunk(img, size) {
		expect(t, "Write", s.Write(piece), api.OK)
	}
	expect(t, "Got", s.Got(), len(img))
	finishes(t, "delivered", s, headOf(img), api.OK)
	expect(t, "Got, behind Finish", s.Got(), 0)
}

// P7.1, P7.3: the document's own example.
func TestExample(t *testing.T) {
	one, two := whole(1, "one"), whole(2, "two")
	d := newDevice(t, 4, 4, one)
	s := d.boot()
	stands(t, "made", s, 0, 0, 0)
	selects(t, "the first boot", s, 0, api.OK)
	deliver(t, s, two, 10)
	expect(t, "Arm", s.Arm(), api.OK)
	stands(t, "armed", s, 0, 1, 0)
	s = d.boot()
	stands(t, "armed, made anew", s, 0, 1, 0)
	selects(t, "armed", s, 1, api.OK)
	stands(t, "tried", s, 0, 2, 1)
	s = d.boot()
	stands(t, "tried, made anew", s, 0, 2, 0)
	selects(t, "not confirmed", s, 0, api.OK)
	stands(t, "not confirmed", s, 0, 0, 0)
	has(t, "not confirmed", s, 0, one)
	has(t, "not confirmed", s, 1, two)
}

// P7.1: an image that is confirmed is the active one, and the next is written into the other slot.
func TestConfirmedImages(t *testing.T) {
	d := newDevice(t, 4, 3, whole(1, "one"))
	s := d.boot()
	for n := range 5 {
		to, img := 1-n%2, whole(uint32(n+2), "body "+string(rune('a'+n)))
		selects(t, "a boot", s, 1-to, api.OK)
		before := d.bytes()[1-to]
		deliver(t, s, img, 7+n)
		expect(t, "Arm", s.Arm(), api.OK)
		s = d.boot()
		selects(t, "armed", s, to, api.OK)
		expect(t, "Confirm", s.Confirm(), api.OK)
		stands(t, "confirmed", s, to, 0, to)
		has(t, "confirmed", s, to, img)
		if !bytes.Equal(d.bytes()[1-to], before) {
			t.Error("what was active is turned")
		}
		s = d.boot()
		stands(t, "made anew", s, to, 0, to)
	}
}

// P7.1: a value that is kept counts if it is of two bytes that may be; another one, or none, as 0, 0.
func TestWhatIsKept(t *testing.T) {
	stands(t, "none", newDevice(t, 2, 2).boot(), 0, 0, 0)
	for active := range 2 {
		for phase := range 3 {
			d := newDevice(t, 2, 2).keeping(byte(active), byte(phase))
			stands(t, "kept", d.boot(), active, phase, active)
		}
	}
	for _, val := range [][]byte{nil, {1}, {1, 1, 0}, {2, 0}, {2, 2}, {255, 0}, {0, 3}, {1, 3}, {1, 255}, {0, 0, 1}, make([]byte, 40)} {
		d := newDevice(t, 3, 3, whole(1, "one"), whole(2, "two")).keeping(1, 2).keeping(val...)
		s := d.boot()
		stands(t, "another value", s, 0, 0, 0)
		turned := d.flash.Turned()
		selects(t, "another value", s, 0, api.OK)
		expect(t, "bytes turned, as nothing changes", d.flash.Turned(), turned)
		expect(t, "Arm", s.Arm(), api.OK)
		now, _ := d.journal().Get(0)
		expect(t, "what is kept then", string(now), "\x00\x01")
	}
}

// P7.1: what is kept is asked of the journal, which others use, too.
func TestOthersInTheJournal(t *testing.T) {
	d := newDevice(t, 3, 3, whole(1, "one"), whole(2, "two"))
	j := d.journal()
	s := slots.New(d.c, d.d, j)
	expect(t, "Put by 1", j.Put(1, []byte{1, 1}), api.OK)
	stands(t, "another key", s, 0, 0, 0)
	expect(t, "Put by 0", j.Put(0, []byte{1, 1}), api.OK)
	stands(t, "turned by another", s, 1, 1, 0)
	selects(t, "turned by another", s, 0, api.OK)
	stands(t, "a trial of slot 0", s, 1, 2, 0)
	val, _ := j.Get(1)
	expect(t, "another key's value", string(val), "\x01\x01")
}

// P7.1: a slot is valid if its bytes begin with a whole image, whatever is behind it.
func TestValidSlots(t *testing.T) {
	full := whole(9, string(bytes.Repeat([]byte("x"), 128)))
	for _, body := range []string{"", "hello", string(full[64:])} {
		img := whole(5, body)
		for behind := range min(2, 192-len(img)+1) {
			d := newDevice(t, 3, 3, append(bytes.Clone(img), make([]byte, behind)...), full)
			s := d.boot()
			has(t, "an image", s, 0, img)
			has(t, "another one", s, 1, full)
		}
		for i := range 8 * len(img) {
			b := bytes.Clone(img)
			b[i/8] ^= 1 << (i % 8)
			s := newDevice(t, 3, 3, full, b).boot()
			has(t, "a bit turned", s, 1, nil)
			has(t, "beside it", s, 0, full)
		}
		for n := range img {
			b := img[:n]
			if n < 64 || body != "" && img[n] != 255 { // what is erased ends as what is there
				has(t, "cut off", newDevice(t, 3, 3, b).boot(), 0, nil)
			}
		}
	}
	long := string(bytes.Repeat([]byte("x"), 129))
	has(t, "more than the slot has", newDevice(t, 3, 4, whole(1, long)[:192]).boot(), 0, nil)
	has(t, "as much as the slot has", newDevice(t, 3, 4, nil, whole(1, long)).boot(), 1, whole(1, long))
	for _, size := range []uint32{1 << 20, 1<<20 + 1, math.MaxInt32, 1 << 31, math.MaxUint32} {
		has(t, "far more", newDevice(t, 3, 3, raw(1, size, [32]byte{}, nil)).boot(), 0, nil)
	}
	has(t, "blank", newDevice(t, 3, 3).boot(), 0, nil)
	has(t, "zeros", newDevice(t, 3, 3, make([]byte, 192)).boot(), 0, nil)
}

// P7.1: there are slots 0 and 1; a slot may be too small for a head.
func TestNoSuchSlots(t *testing.T) {
	img := whole(1, "one")
	s := newDevice(t, 3, 3, img, img).boot()
	for _, slot := range []int{-1, 2, 3, math.MinInt, math.MaxInt, 1 << 32} {
		has(t, "no such slot", s, slot, nil)
		expect(t, "Same", s.Same(slot, img), false)
	}
	f := flash.New(14, 16)
	a, _ := part.New(f, 0, 2)
	b, _ := part.New(f, 2, 2)
	c, _ := part.New(f, 4, 7)
	small, _ := part.New(f, 11, 3)
	j, _ := journal.Open(a, b)
	c.Write(0, img)
	small.Write(0, img[:48])
	s = slots.New(c, small, j)
	has(t, "too small", s, 1, nil)
	expect(t, "Begin", s.Begin(64), api.ErrSize)
	expect(t, "Arm", s.Arm(), api.ErrNone)
	selects(t, "the other one", s, 0, api.OK)
}

// P7.1: the same is what is byte by byte the same, and as long.
func TestSame(t *testing.T) {
	img := whole(1, "one")
	s := newDevice(t, 3, 3, append(bytes.Clone(img), 7, 7)).boot()
	expect(t, "the same", s.Same(0, img), true)
	expect(t, "with what is behind it", s.Same(0, append(bytes.Clone(img), 7, 7)), false)
	for i := range img {
		other := bytes.Clone(img)
		other[i] ^= 16
		expect(t, "another", s.Same(0, other), false)
		expect(t, "less", s.Same(0, img[:i]), false)
	}
	expect(t, "a valid one of another version", s.Same(0, whole(2, "one")), false)
	expect(t, "a slot that isn't valid", s.Same(1, img), false)
	expect(t, "what such a slot has", s.Same(1, ones(192)), false)
}

// P7.1: Begin's errors in their order; what is refused clears nothing.
func TestErrorsOfBegin(t *testing.T) {
	img := whole(1, "one")
	for active := range 2 {
		room := [2]int{192, 128}[1-active]
		for phase := range 3 {
			d := newDevice(t, 3, 2, img, img).keeping(byte(active), byte(phase))
			s := d.boot()
			before := d.flash.Image()
			for _, size := range []int{math.MinInt, -1, 0, 1, 63, room + 1, 1 << 20, 1<<32 + 64, math.MaxInt} {
				want := api.ErrSize
				if phase != 0 {
					want = api.ErrState
				}
				expect(t, "a size that may not be", s.Begin(size), want)
				expect(t, "Write", s.Write(nil), api.ErrState)
			}
			if phase != 0 {
				expect(t, "a phase", s.Begin(64), api.ErrState)
			}
			if !bytes.Equal(d.flash.Image(), before) {
				t.Error("what is refused turns bytes")
			}
			d.goDown()
			expect(t, "down", s.Begin(64), api.ErrDown)
			expect(t, "down, a size that may not be", s.Begin(63), api.ErrDown)
		}
		for _, size := range []int{64, 65, room - 1, room} {
			d := newDevice(t, 3, 2, img, img).keeping(byte(active), 0)
			s := d.boot()
			before := d.bytes()[active]
			expect(t, "Begin", s.Begin(size), api.OK)
			if now := d.bytes(); !bytes.Equal(now[active], before) || !bytes.Equal(now[1-active], ones(room)) {
				t.Errorf("size %d: the slots behind Begin: %v", size, now)
			}
			expect(t, "Begin, once more", s.Begin(size), api.OK)
			expect(t, "wear", d.slot(1-active).Wear(), 2)
			expect(t, "wear of the active slot", d.slot(active).Wear(), 0)
		}
	}
}

// P7.1: by Begin one that was being written is no more, whatever Begin answers.
func TestBeginWhileOneIsWritten(t *testing.T) {
	img := whole(2, "two")
	for size, want := range map[int]api.Errno{63: api.ErrSize, 193: api.ErrSize, -1: api.ErrSize, len(img): api.OK} {
		s := newDevice(t, 3, 3, whole(1, "one")).boot()
		expect(t, "Begin", s.Begin(80), api.OK)
		expect(t, "Write", s.Write(img[:50]), api.OK)
		expect(t, "Got", s.Got(), 50)
		expect(t, "Begin, while one is written", s.Begin(size), want)
		expect(t, "Got, behind it", s.Got(), 0)
		if want != api.OK {
			expect(t, "Write, behind it", s.Write(img[50:]), api.ErrState)
			continue
		}
		expect(t, "Write, behind it", s.Write(img), api.OK)
		finishes(t, "the later one", s, headOf(img), api.OK)
	}
}

// P7.1: what has come of an image, in whatever pieces, stands in the other slot from its beginning on.
func TestPieces(t *testing.T) {
	img := whole(2, string(bytes.Repeat([]byte("body"), 25)))
	for size := 1; size <= len(img); size++ {
		d := newDevice(t, 3, 3, whole(1, "one"))
		s := d.boot()
		expect(t, "Begin", s.Begin(len(img)), api.OK)
		come := 0
		for piece := range slices.Chunk(img, size) {
			finishes(t, "fewer bytes", s, image.Head{}, api.ErrSize)
			expect(t, "one byte too many", s.Write(make([]byte, len(img)-come+1)), api.ErrLong)
			expect(t, "Write", s.Write(piece), api.OK)
			expect(t, "Write of nothing", s.Write(nil), api.OK)
			come += len(piece)
			expect(t, "Got", s.Got(), come)
			if b := d.bytes()[1]; !bytes.Equal(b, append(bytes.Clone(img[:come]), ones(192-come)...)) {
				t.Fatalf("pieces of %d: %d bytes are there as %v", size, come, b)
			}
		}
		expect(t, "too many", s.Write([]byte{255}), api.ErrLong)
		finishes(t, "all", s, headOf(img), api.OK)
		finishes(t, "once more", s, image.Head{}, api.ErrState)
		expect(t, "Write, behind Finish", s.Write(nil), api.ErrState)
		has(t, "all", s, 1, img)
	}
}

// P7.1: Write's errors of a head, as soon as 64 bytes have come, and not before.
func TestErrorsOfHeads(t *testing.T) {
	img := whole(2, "hello")
	turned := func(at int) []byte {
		b := bytes.Clone(img)
		b[at] ^= 64
		return b
	}
	sum := [32]byte(img[28:60])
	for _, c := range []struct {
		b    []byte
		size int // of the image, as Begin is told
		want api.Errno
	}{
		{img, 69, api.OK}, {turned(64), 69, api.OK},
		{turned(0), 69, api.ErrMagic}, {turned(3), 70, api.ErrMagic}, {turned(4), 69, api.ErrSum}, {turned(63), 70, api.ErrSum},
		{raw(2, 1<<20+1, sum, img[64:]), 69, api.ErrForm}, {raw(2, math.MaxUint32, sum, img[64:]), 69, api.ErrForm},
		{raw(2, 4, sum, img[64:]), 69, api.ErrSize}, {raw(2, 6, sum, img[64:]), 69, api.ErrSize}, {raw(2, 1<<20, sum, img[64:]), 69, api.ErrSize},
		{img, 70, api.ErrSize}, {img, 192, api.ErrSize}, {img[:64], 64, api.ErrSize}, {whole(2, ""), 64, api.OK},
	} {
		for first := range len(c.b) + 1 {
			d := newDevice(t, 3, 3, whole(1, "one"))
			s := d.boot()
			expect(t, "Begin", s.Begin(c.size), api.OK)
			e := s.Write(c.b[:first])
			if first < 64 {
				expect(t, "fewer than 64 bytes", e, api.OK)
				expect(t, "Got", s.Got(), first)
				first = len(c.b)
				e = s.Write(c.b[s.Got():])
			}
			expect(t, "64 bytes", e, c.want)
			if b := d.bytes()[1]; !bytes.Equal(b, append(bytes.Clone(c.b[:first]), ones(192-first)...)) {
				t.Errorf("what has come isn't written: %v", b)
			}
			if c.want == api.OK {
				expect(t, "Got", s.Got(), first)
				expect(t, "the rest", s.Write(c.b[first:]), api.OK)
				continue
			}
			expect(t, "Got, behind an error", s.Got(), 0)
			expect(t, "Write, behind an error", s.Write(nil), api.ErrState)
			deliver(t, s, img, 69)
		}
	}
}

// P7.1: Write's and Finish's errors in their order.
func TestErrorsOfWriteAndFinish(t *testing.T) {
	d := newDevice(t, 3, 3, whole(1, "one"))
	s := d.boot()
	expect(t, "none is written", s.Write(make([]byte, 1000)), api.ErrState)
	finishes(t, "none is written", s, image.Head{}, api.ErrState)
	expect(t, "Begin", s.Begin(80), api.OK)
	finishes(t, "nothing has come", s, image.Head{}, api.ErrSize)
	before := d.flash.Image()
	for _, n := range []int{81, 192, 193, 100000} {
		expect(t, "too many", s.Write(make([]byte, n)), api.ErrLong)
	}
	if !bytes.Equal(d.flash.Image(), before) || s.Got() != 0 {
		t.Error("what is too long is written")
	}
	d.goDown()
	expect(t, "down, too many", s.Write(make([]byte, 100)), api.ErrDown)
	finishes(t, "down", s, image.Head{}, api.ErrDown)
	d.flash.Restore()
	expect(t, "none is written, behind ErrDown", s.Write(nil), api.ErrState)
	bad := whole(2, "body")
	bad[66] = 'D'
	expect(t, "Begin", s.Begin(len(bad)), api.OK)
	expect(t, "Write", s.Write(bad), api.OK)
	finishes(t, "another digest", s, image.Head{}, api.ErrSum)
	finishes(t, "another digest, once more", s, image.Head{}, api.ErrState)
	bad = whole(1, "body")
	bad[66] = 'D'
	expect(t, "Begin", s.Begin(len(bad)), api.OK)
	expect(t, "Write", s.Write(bad), api.OK)
	finishes(t, "another digest, and no later version", s, image.Head{}, api.ErrSum)
	expect(t, "Arm", s.Arm(), api.ErrNone)
}

// P7.1: a version is later if it is greater than that of the active slot, if that is valid.
func TestVersions(t *testing.T) {
	for _, c := range []struct {
		active, next uint32
		want         api.Errno
	}{
		{0, 0, api.ErrVersion}, {0, 1, api.OK}, {1, 0, api.ErrVersion}, {7, 7, api.ErrVersion}, {7, 6, api.ErrVersion}, {7, 8, api.OK}, {255, 256, api.OK},
		{1<<31 - 1, 1 << 31, api.OK}, {1 << 31, 1<<31 - 1, api.ErrVersion}, {math.MaxUint32 - 1, math.MaxUint32, api.OK},
		{math.MaxUint32, math.MaxUint32, api.ErrVersion}, {math.MaxUint32, 0, api.ErrVersion},
	} {
		for active := range 2 {
			next := whole(c.next, "next")
			images := [2][]byte{whole(c.active, "now"), whole(c.active, "now")}
			images[1-active] = whole(math.MaxUint32, "was")
			d := newDevice(t, 3, 3, images[0], images[1]).keeping(byte(active), 0)
			s := d.boot()
			expect(t, "Begin", s.Begin(len(next)), api.OK)
			expect(t, "Write", s.Write(next), api.OK)
			want := image.Head{}
			if c.want == api.OK {
				want = headOf(next)
			}
			finishes(t, "a version", s, want, c.want)
			finishes(t, "a version, once more", s, image.Head{}, api.ErrState)
			expect(t, "Got", s.Got(), 0)
			has(t, "a version", s, 1-active, next)
		}
	}
	s := newDevice(t, 3, 3).boot()
	deliver(t, s, whole(0, "the first one"), 64)
}

// P7.1: an image is no more to be written behind Stop and Select.
func TestStop(t *testing.T) {
	img := whole(2, "two")
	for i, stop := range []func(s *slots.Slots){(*slots.Slots).Stop, func(s *slots.Slots) { selects(t, "a boot", s, 0, api.OK) }} {
		s := newDevice(t, 3, 3, whole(1, "one")).boot()
		stop(s)
		expect(t, "Begin", s.Begin(len(img)), api.OK)
		expect(t, "Write", s.Write(img[:66]), api.OK)
		expect(t, "Arm, while one is written", s.Arm(), api.ErrState)
		stop(s)
		stands(t, "stopped", s, 0, 0, 0)
		expect(t, "Write", s.Write(img[66:]), api.ErrState)
		finishes(t, "stopped", s, image.Head{}, api.ErrState)
		expect(t, "Arm", s.Arm(), api.ErrNone)
		if i == 0 {
			stop(s)
		}
		deliver(t, s, img, 66)
	}
}
