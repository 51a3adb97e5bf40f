package fw_test

import (
	"bytes"
	"math"
	"testing"

	"outpost/api"
	"outpost/block"
	"outpost/image"
)

// P23.1: what is delivered is taken back by the last block, of number 0 and without data; its size doesn't count.
func TestTakenBack(t *testing.T) {
	for state := range 4 {
		for _, size := range []int{16, 64, 1024, 0, 17, -1, math.MaxInt} {
			_, u := in(t, state)
			want := api.Changed
			if state == 3 {
				want = api.NotAllowed
			}
			u.answers("taken back", u.Push(block.Block{Size: size}, []byte{}), want)
			if state == 3 {
				u.is("taken back", 3, 0, 2)
				continue
			}
			u.is("taken back", 0, 0)
			if u.s.Got() != 0 {
				t.Error("it is still being written")
			}
			u.answers("more of it", u.Push(block.Block{Num: 1, More: true, Size: 64}, make([]byte, 64)), api.NotAllowed)
			u.answers("another one", u.pushAll(made(3, 70), 32), api.Changed)
			u.is("another one", 2, 0, 3)
		}
	}
	_, u := pulling(t, made(2, 100), 1)
	u.answers("taken back", u.Push(block.Block{Size: 16}, nil), api.Changed)
	u.is("taken back", 0, 0)
	u.wanted("taken back", -1)
	if u.URI() != "coap://h/x" {
		t.Errorf("URI %q", u.URI())
	}
	u.SetURI("http://h/")
	u.is("failed", 0, 9)
	u.answers("taken back", u.Push(block.Block{Size: 16}, nil), api.Changed)
	u.is("taken back", 0, 0)
}

// P23.1, P23.2: a first block in each state, with what is wrong with it.
func TestFirstBlocks(t *testing.T) {
	img := made(2, 100)
	for _, c := range []struct {
		b             block.Block
		data          []byte
		code          int
		state, result int // from state 0 with result 0
	}{
		{block.Block{More: true, Size: 64}, img[:64], api.Continue, 1, 0},
		{block.Block{More: true, Size: 16}, img[:16], api.Continue, 1, 0},
		{block.Block{More: true, Size: 128}, img[:128], api.Continue, 1, 0},
		{block.Block{Size: 256}, img, api.Changed, 2, 0},
		{block.Block{Size: 1024}, img, api.Changed, 2, 0},
		{block.Block{Size: 16}, img[:1], api.BadRequest, 0, 6},
		{block.Block{Size: 64}, img[:64], api.BadRequest, 0, 5},
		{block.Block{More: true, Size: 16}, nil, api.BadRequest, 0, 0},
		{block.Block{More: true, Size: 64}, img[:63], api.BadRequest, 0, 0},
		{block.Block{More: true, Size: 64}, img[:65], api.BadRequest, 0, 0},
		{block.Block{Size: 64}, img[:65], api.BadRequest, 0, 0},
		{block.Block{More: true, Size: 0}, img[:64], api.Incomplete, 0, 0},
		{block.Block{More: true, Size: 63}, img[:63], api.Incomplete, 0, 0},
		{block.Block{More: true, Size: 8}, img[:8], api.Incomplete, 0, 0},
		{block.Block{More: true, Size: 2048}, img, api.Incomplete, 0, 0},
		{block.Block{More: true, Size: -64}, nil, api.Incomplete, 0, 0},
		{block.Block{Size: 65}, img[:65], api.Incomplete, 0, 0},
	} {
		for state := range 4 {
			_, u := in(t, state)
			code, to, result := c.code, c.state, c.result
			if state == 1 && to == 0 && result == 0 {
				result = 4 // what was being delivered was given up first
			}
			if state > 1 {
				code, to, result = api.NotAllowed, state, 0
			}
			u.answers("a first block", u.Push(c.b, c.data), code)
			if to > 1 {
				u.is("a first block", to, result, 2)
			} else {
				u.is("a first block", to, result)
			}
			if t.Failed() {
				t.Fatalf("%v of %d bytes in state %d", c.b, len(c.data), state)
			}
		}
		// What is pulled is given up for it, too.
		_, u := pulling(t, made(2, 100), 1)
		u.answers("while it is pulled", u.Push(c.b, c.data), c.code)
		u.wanted("while it is pulled", -1)
		if want := c.state == 0 && c.result == 0; want != (u.State() == 0 && u.Result() == 4) {
			t.Errorf("%v: %d, %d", c.b, u.State(), u.Result())
		}
	}
	// Of state 0 the result stays where nothing is turned.
	_, u := in(t, 0)
	u.SetURI("http://h/")
	u.answers("a size that may not be", u.Push(part0(63), img[:63]), api.Incomplete)
	u.is("a size that may not be", 0, 9)
	u.answers("a first block", u.Push(part0(64), img[:64]), api.Continue)
	u.is("a first block", 1, 0)
}

// P23.1, P23.2: others behind the first one, in each state.
func TestOtherBlocks(t *testing.T) {
	img := made(2, 100)
	for _, c := range []struct {
		b    block.Block
		data []byte
		code int
		then []int // behind 64 bytes that were pushed
	}{
		{block.Block{Num: 1, More: true, Size: 64}, img[64:128], api.Continue, []int{1, 0}},
		{block.Block{Num: 1, Size: 128}, img[64:], api.Incomplete, []int{0, 4}},
		{block.Block{Num: 4, More: true, Size: 16}, img[64:80], api.Continue, []int{1, 0}},
		{block.Block{Num: 2, More: true, Size: 32}, img[64:96], api.Continue, []int{1, 0}},
		{block.Block{Num: 2, More: true, Size: 64}, img[64:128], api.Incomplete, []int{0, 4}},
		{block.Block{Num: 5, More: true, Size: 16}, img[64:80], api.Incomplete, []int{0, 4}},
		{block.Block{Num: 1, More: true, Size: 16}, img[64:80], api.Incomplete, []int{0, 4}},
		{block.Block{Num: -1, More: true, Size: 64}, img[64:128], api.Incomplete, []int{0, 4}},
		{block.Block{Num: 1 << 20, More: true, Size: 64}, img[64:128], api.Incomplete, []int{0, 4}},
		{block.Block{Num: 1 << 58, More: true, Size: 64}, img[64:128], api.Incomplete, []int{0, 4}},
		{block.Block{Num: math.MaxInt, Size: 64}, nil, api.Incomplete, []int{0, 4}},
		{block.Block{Num: math.MinInt, Size: 64}, nil, api.Incomplete, []int{0, 4}},
		{block.Block{Num: 1, More: true, Size: 65}, img[64:129], api.Incomplete, []int{0, 4}},
		{block.Block{Num: 1, More: true, Size: 64}, img[64:127], api.BadRequest, []int{0, 4}},
		{block.Block{Num: 1, More: true, Size: 64}, img[64:129], api.BadRequest, []int{0, 4}},
		{block.Block{Num: 1, Size: 64}, img[64:129], api.BadRequest, []int{0, 4}},
		{block.Block{Num: 1, More: true, Size: 64}, nil, api.BadRequest, []int{0, 4}},
		{block.Block{Num: 1, Size: 64}, nil, api.BadRequest, []int{0, 5}},
		{block.Block{Num: 1, Size: 64}, img[64:127], api.BadRequest, []int{0, 5}},
	} {
		for state := range 4 {
			_, u := in(t, state)
			if state == 1 {
				u.answers("behind the first", u.Push(c.b, c.data), c.code)
				u.is("behind the first", c.then[0], c.then[1])
				if c.then[0] == 0 {
					u.answers("once more", u.Push(c.b, c.data), api.NotAllowed)
					u.is("once more", c.then[0], c.then[1])
				}
			} else {
				u.answers("without a first", u.Push(c.b, c.data), api.NotAllowed)
				u.is("without a first", state, 0, byte(state/2*2))
			}
			if t.Failed() {
				t.Fatalf("%v of %d bytes in state %d", c.b, len(c.data), state)
			}
		}
		// While it is pulled none is taken, and it goes on.
		_, u := pulling(t, img, 1)
		u.answers("while it is pulled", u.Push(c.b, c.data), api.NotAllowed)
		u.wanted("while it is pulled", 1)
		u.is("while it is pulled", 1, 0)
	}
	// In state 1 nothing may be pushed any more, since it is another object.
	d, _ := in(t, 1)
	u := d.look()
	u.answers("of another object", u.Push(block.Block{Num: 1, More: true, Size: 64}, img[64:128]), api.NotAllowed)
	u.is("of another object", 1, 0)
	u.wanted("of another object", -1)
	u.answers("a first one", u.pushAll(img, 64), api.Changed)
	u.is("a first one", 2, 0, 2)
}

// P23.1: what is wrong with an image, whatever the blocks' size, pushed and pulled.
func TestWhatIsWrong(t *testing.T) {
	good := made(2, 100)
	turned := func(at int) []byte {
		b := bytes.Clone(good)
		b[at] ^= 1
		return b
	}
	named := func(h image.Head, body int) []byte {
		b, e := image.Write(h)
		if e != api.OK {
			t.Fatal(e)
		}
		return append(b, make([]byte, body)...)
	}
	for i, c := range []struct {
		img          []byte
		code, result int
	}{
		{turned(0), 128, 6},  // another magic
		{turned(5), 128, 6},  // another sum
		{turned(63), 128, 6}, //
		{make([]byte, 80), 128, 6},
		{turned(64), 128, 5},  // another digest
		{turned(163), 128, 5}, //
		{good[:163], 128, 5},  // too few bytes
		{good[:128], 128, 5},  //
		{good[:65], 128, 5},   //
		{good[:64], 128, 5},   //
		{good[:63], 128, 6},   // no whole head
		{good[:1], 128, 6},    //
		{turned(0)[:63], 128, 6},
		{append(bytes.Clone(good), 0), 128, 5}, // too many
		{append(bytes.Clone(good), make([]byte, 200)...), 128, 5},
		{append(made(2, 0), 0), 128, 5},
		{made(1, 100), 128, 6}, // no later version
		{made(0, 0), 128, 6},
		{made(2, slotSize-63), 141, 2}, // no room
		{made(9, 2000), 141, 2},
		{made(1, 2000), 141, 2}, // told ahead of the version
		{named(image.Head{Version: 2, Size: 1 << 20, Name: "a"}, 10), 141, 2},
		{named(image.Head{Version: 2, Size: slotSize - 63, Name: "a"}, 0), 141, 2},
		{named(image.Head{Version: 2, Size: slotSize - 64, Name: "a"}, 10), 128, 5},
		{named(image.Head{Version: 1, Size: 9, Name: "a"}, 9), 128, 5}, // another digest is told ahead of the version
	} {
		for size := 16; size <= 1024; size *= 2 {
			u := newDevice(t, made(1, 3)).boot()
			u.answers("pushed", u.pushAll(c.img, size), c.code)
			u.is("pushed", 0, c.result)
			if u.s.Got() != 0 {
				t.Error("it is still being written")
			}
			u.answers("another one", u.pushAll(good, size), api.Changed)
			u.is("another one", 2, 0, 2)
			if t.Failed() {
				t.Fatalf("case %d, blocks of %d", i, size)
			}
		}
		u := newDevice(t, made(1, 3)).boot()
		u.answers("SetURI", u.SetURI("coap://h/x"), api.Changed)
		u.pullAll(c.img)
		u.is("pulled", 0, c.result)
		u.wanted("pulled", -1)
		u.answers("SetURI", u.SetURI("coap://h/x"), api.Changed)
		u.pullAll(good)
		u.is("another one", 2, 0, 2)
		if t.Failed() {
			t.Fatalf("case %d, pulled", i)
		}
	}
}

// P23.1: it fails with the block that tells it, not later.
func TestItFailsAtOnce(t *testing.T) {
	b := make([]byte, 200)
	u := newDevice(t, made(1, 3)).boot()
	for n := range 3 {
		u.answers("ahead of the whole head", u.Push(block.Block{Num: n, More: true, Size: 16}, b[:16]), api.Continue)
		u.is("ahead of the whole head", 1, 0)
	}
	u.answers("the head", u.Push(block.Block{Num: 3, More: true, Size: 16}, b[:16]), api.BadRequest)
	u.is("the head", 0, 6)
	great := made(2, slotSize)
	u.answers("no room", u.Push(part0(64), great[:64]), api.TooLarge)
	u.is("no room", 0, 2)
	short := append(made(2, 10), b...)
	u.answers("too many", u.Push(part0(64), short[:64]), api.Continue)
	u.answers("too many", u.Push(block.Block{Num: 1, More: true, Size: 64}, short[64:128]), api.BadRequest)
	u.is("too many", 0, 5)
	u.answers("too many at once", u.Push(part0(128), short[:128]), api.BadRequest)
	u.is("too many at once", 0, 5)
	// Somebody else has armed the slot or stops the writing: that is no lack of room.
	d := newDevice(t, made(1, 3), made(2, 3))
	u = d.boot()
	u.s.Arm()
	u.answers("armed", u.Push(part0(64), made(3, 50)[:64]), api.BadRequest)
	u.is("armed", 0, 5)
	_, u = in(t, 1)
	u.s.Stop()
	u.answers("stopped", u.Push(block.Block{Num: 1, More: true, Size: 64}, made(2, 100)[64:128]), api.BadRequest)
	u.is("stopped", 0, 5)
}

// P23.3, P23.4: an image that is delivered in blocks, in order, is in the other slot, byte by byte; of all sizes, pushed and pulled.
func TestWhatIsDeliveredIsThere(t *testing.T) {
	for size := 0; size <= slotSize-64; size++ {
		img := made(uint32(2+size), size)
		if size > 70 && size%16 > 1 && size%16 < 15 {
			continue
		}
		check := func(what string, u up) {
			t.Helper()
			u.is(what, 2, 0, byte(2+size), byte((2+size)>>8))
			if !u.s.Same(1, img) || u.s.Active() != 0 || u.s.Phase() != 0 || !u.s.Same(0, made(1, 3)) {
				t.Errorf("%s: %d bytes aren't there", what, size)
			}
		}
		for blocks := 16; blocks <= 1024; blocks *= 2 {
			u := newDevice(t, made(1, 3)).boot()
			u.answers("pushed", u.pushAll(img, blocks), api.Changed)
			check("pushed", u)
		}
		u := newDevice(t, made(1, 3)).boot()
		u.answers("SetURI", u.SetURI("coap://h/x"), api.Changed)
		if n := u.pullAll(img); n != (len(img)+63)/64 {
			t.Errorf("%d blocks", n)
		}
		check("pulled", u)
		u.wanted("pulled", -1)
	}
	// A last block may be empty, and the blocks' sizes may change.
	img := made(2, 128)
	u := newDevice(t, made(1, 3)).boot()
	for i, b := range []block.Block{{Num: 0, More: true, Size: 16}, {Num: 1, More: true, Size: 16}, {Num: 1, More: true, Size: 32}, {Num: 1, More: true, Size: 64}, {Num: 1, More: false, Size: 128}} {
		data, _, _ := block.Cut(img, b.Num, b.Size)
		u.answers("pushed", u.Push(b, data), map[bool]int{true: api.Continue, false: api.Changed}[i < 4])
	}
	u.is("pushed", 2, 0, 2)
	if !u.s.Same(1, img) {
		t.Error("it isn't there")
	}
	u = newDevice(t, made(1, 3)).boot()
	for n := range 3 {
		u.answers("pushed", u.Push(block.Block{Num: n, More: true, Size: 64}, img[n*64:][:64]), api.Continue)
	}
	u.answers("an empty one", u.Push(block.Block{Num: 3, Size: 64}, nil), api.Changed)
	u.is("an empty one", 2, 0, 2)
	if !u.s.Same(1, img) {
		t.Error("it isn't there")
	}
}

// P23.3: into whichever slot isn't active, one image behind the other; where none is active a version may be any.
func TestOneBehindTheOther(t *testing.T) {
	d := newDevice(t, made(1, 3))
	for n := range 7 {
		img := made(uint32(2+n), 30*n)
		u := d.boot()
		u.answers("pushed", u.pushAll(img, 64), api.Changed)
		if !u.s.Same((n+1)%2, img) || !u.Update() {
			t.Fatal("no update")
		}
		u = d.boot()
		u.is("booted", 0, 1)
		if u.s.Active() != (n+1)%2 || !u.s.Same(u.s.Active(), img) {
			t.Errorf("version %d doesn't run", 2+n)
		}
	}
	u := newDevice(t).look()
	u.answers("Boot", int(u.Boot()), int(api.OK))
	u.answers("pushed", u.pushAll(made(0, 5), 64), api.Changed)
	u.is("pushed", 2, 0)
}
