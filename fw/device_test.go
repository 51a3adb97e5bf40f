package fw_test

import (
	"bytes"
	"testing"

	"outpost/api"
	"outpost/block"
	"outpost/flash"
	"outpost/fw"
	"outpost/image"
	"outpost/journal"
	"outpost/part"
	"outpost/slots"
)

const (
	sector   = 64
	slotSize = 6 * sector
)

// device is flashes, and the groups and slots on them: all on one, or the slots on one of their own.
type device struct {
	t             *testing.T
	flash, images *flash.Flash
	a, b, c, d    *part.Part
}

// newDevice is a device with images in its slots (nil: none).
func newDevice(t *testing.T, imgs ...[]byte) *device {
	t.Helper()
	d := &device{t: t, flash: flash.New(18, sector)}
	d.images = d.flash
	d.lay(6, imgs)
	return d
}

// apart is a device whose slots are on a flash of their own.
func apart(t *testing.T, imgs ...[]byte) *device {
	t.Helper()
	d := &device{t: t, flash: flash.New(6, sector), images: flash.New(12, sector)}
	d.lay(0, imgs)
	return d
}

func (d *device) lay(first int, imgs [][]byte) {
	d.t.Helper()
	d.a, _ = part.New(d.flash, 0, 3)
	d.b, _ = part.New(d.flash, 3, 3)
	d.c, _ = part.New(d.images, first, 6)
	d.d, _ = part.New(d.images, first+6, 6)
	for i, img := range imgs {
		if d.slot(i).Write(0, img) != api.OK {
			d.t.Fatal("no image")
		}
	}
}

func (d *device) slot(n int) *part.Part { return []*part.Part{d.c, d.d}[n] }

// keeping is the device with a value of its journal.
func (d *device) keeping(key int, val ...byte) *device {
	d.t.Helper()
	j := d.open()
	if e := j.Put(key, val); e != api.OK {
		d.t.Fatalf("not kept: %d", e)
	}
	return d
}

func (d *device) open() *journal.Journal {
	d.t.Helper()
	j, e := journal.Open(d.a, d.b)
	if e != api.OK {
		d.t.Fatalf("no journal: %d", e)
	}
	return j
}

// up is what stands on a device that is up.
type up struct {
	*fw.Fw
	t *testing.T
	s *slots.Slots
	j *journal.Journal
}

// look opens all, and neither selects nor boots.
func (d *device) look() up {
	d.t.Helper()
	j := d.open()
	s := slots.New(d.c, d.d, j)
	return up{fw.New(s, j), d.t, s, j}
}

// boot boots the device; the power is there again.
func (d *device) boot() up {
	d.t.Helper()
	d.flash.Restore()
	d.images.Restore()
	u := d.look()
	if _, e := u.s.Select(); e != api.OK {
		d.t.Fatalf("nothing runs: %d", e)
	}
	if e := u.Boot(); e != api.OK {
		d.t.Fatalf("no boot: %d", e)
	}
	return u
}

// is holds the pair, and what is kept of it: the version is that which is to run.
func (u up) is(what string, state, result int, version ...byte) {
	u.t.Helper()
	if u.State() != state || u.Result() != result {
		u.t.Errorf("%s: %d, %d, want %d, %d", what, u.State(), u.Result(), state, result)
	}
	want := append(append([]byte{byte(state), byte(result)}, version...), make([]byte, 4-len(version))...)
	if val, ok := u.j.Get(1); ok && !bytes.Equal(val, want) || !ok && !bytes.Equal(want, make([]byte, 6)) {
		u.t.Errorf("%s: kept is %v, want %v", what, val, want)
	}
}

// answers holds the code of an answer.
func (u up) answers(what string, got, want int) {
	u.t.Helper()
	if got != want {
		u.t.Errorf("%s: %d, want %d", what, got, want)
	}
}

// wanted holds which block is wanted, below 0 if none is.
func (u up) wanted(what string, num int) {
	u.t.Helper()
	if n, ok := u.Wants(); n != max(num, 0) || ok != (num >= 0) {
		u.t.Errorf("%s: block %d, %t is wanted, want %d", what, n, ok, num)
	}
}

// pushAll pushes bytes in blocks of a size, till one isn't answered by Continue: the last code.
func (u up) pushAll(b []byte, size int) int {
	code := 0
	for n := 0; ; n++ {
		data, more, ok := block.Cut(b, n, size)
		if !ok {
			return code
		}
		if code = u.Push(block.Block{Num: n, More: more, Size: size}, data); code != api.Continue || !more {
			return code
		}
	}
}

// pullAll hands in the blocks of bytes that are wanted, till none is: how many.
func (u up) pullAll(b []byte) int {
	for n := 0; ; n++ {
		num, ok := u.Wants()
		if !ok {
			return n
		}
		data, more, _ := block.Cut(b, num, 64)
		if e := u.Pulled(block.Block{Num: num, More: more, Size: 64}, data); e != api.OK {
			u.t.Errorf("block %d: %d", num, e)
			return n
		}
	}
}

// part0 is a block of number 0 behind which more follow.
func part0(size int) block.Block { return block.Block{More: true, Size: size} }

// made is an image of a version, with a body of so many bytes.
func made(version uint32, size int) []byte {
	body := make([]byte, size)
	for i := range body {
		body[i] = byte(i*7) ^ byte(version)
	}
	img, e := image.Make("new", version, body)
	if e != api.OK {
		panic("no image")
	}
	return img
}

// in is a device with image 1, in a state: of 1 a package is pushed, of which 64 bytes have come; in 2 and 3 image 2 is delivered.
func in(t *testing.T, state int) (*device, up) {
	t.Helper()
	d := newDevice(t, made(1, 3))
	u := d.boot()
	switch state {
	case api.Downloading:
		u.answers("pushed", u.Push(part0(64), made(2, 100)[:64]), api.Continue)
	case api.Downloaded, api.Updating:
		u.answers("pushed", u.pushAll(made(2, 100), 64), api.Changed)
		if state == api.Updating && !u.Update() {
			t.Fatal("no update")
		}
	}
	if u.State() != state {
		t.Fatalf("state %d, not %d", u.State(), state)
	}
	return d, u
}

// pulling is a device with image 1, to which so many blocks of an image were pulled.
func pulling(t *testing.T, img []byte, blocks int) (*device, up) {
	t.Helper()
	d := newDevice(t, made(1, 3))
	u := d.boot()
	u.answers("SetURI", u.SetURI("coap://h/x"), api.Changed)
	for n := range blocks {
		if e := u.Pulled(block.Block{Num: n, More: true, Size: 64}, img[n*64:][:64]); e != api.OK {
			t.Fatalf("block %d: %d", n, e)
		}
	}
	u.wanted("pulled", blocks)
	return d, u
}

// try opens all, if the power is there.
func (d *device) try() (up, api.Errno) {
	j, e := journal.Open(d.a, d.b)
	if e != api.OK {
		return up{}, e
	}
	s := slots.New(d.c, d.d, j)
	return up{fw.New(s, j), d.t, s, j}, api.OK
}
