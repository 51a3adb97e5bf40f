package flash_test

import (
	"bytes"
	"math"
	"math/rand"
	"slices"
	"testing"

	"outpost/api"
	"outpost/flash"
)

// far are numbers that no address and no length may be, but for those in between.
var far = []int{math.MinInt, math.MinInt + 1, -1 << 32, -1, 1 << 31, 1 << 32, math.MaxInt - 1, math.MaxInt}

func expect(t *testing.T, what string, got, want any) {
	t.Helper()
	if got != want {
		t.Errorf("%s: %v, want %v", what, got, want)
	}
}

func holds(t *testing.T, f *flash.Flash, at int, want ...byte) {
	t.Helper()
	got, e := f.Read(at, len(want))
	if e != api.OK || !bytes.Equal(got, want) {
		t.Errorf("%d bytes at %d: %v, %d, want %v", len(want), at, got, e, want)
	}
}

// P3.1: a new one is erased, up, without wear; numbers that are too small or too great count as the least, the greatest.
func TestNew(t *testing.T) {
	for _, c := range []struct{ sectors, size, wantSectors, wantSize int }{
		{3, 16, 3, 16}, {1, 17, 1, 17}, {2, 100, 2, 100}, {64, 4096, 64, 4096}, {63, 4095, 63, 4095},
		{0, 16, 1, 16}, {-1, 15, 1, 16}, {1, 0, 1, 16}, {2, -1, 2, 16}, {65, 4097, 64, 4096}, {65, 16, 64, 16}, {1, 4097, 1, 4096},
		{math.MinInt, math.MinInt, 1, 16}, {math.MaxInt, math.MaxInt, 64, 4096},
	} {
		f := flash.New(c.sectors, c.size)
		all := c.wantSectors * c.wantSize
		if f.Size() != all || f.Sector() != c.wantSize || f.Down() || f.Turned() != 0 {
			t.Errorf("New(%d, %d): %d bytes, %d in a sector, %v, %d", c.sectors, c.size, f.Size(), f.Sector(), f.Down(), f.Turned())
		}
		if !bytes.Equal(f.Image(), bytes.Repeat([]byte{255}, all)) {
			t.Errorf("New(%d, %d) isn't erased", c.sectors, c.size)
		}
		for i := range c.wantSectors {
			expect(t, "wear of a new one", f.Wear(i), 0)
		}
		expect(t, "the last sector's erase", f.Erase(c.wantSectors-1), api.OK)
		expect(t, "the erase of one behind it", f.Erase(c.wantSectors), api.ErrArg)
	}
}

// P3.1: the document's own examples.
func TestExamples(t *testing.T) {
	f := flash.New(2, 16)
	expect(t, "0xF0", f.Program(0, []byte{0xF0}), api.OK)
	expect(t, "0x30", f.Program(0, []byte{0x30}), api.OK)
	holds(t, f, 0, 0x30)
	expect(t, "0x70", f.Program(0, []byte{0x70}), api.ErrBits)
	holds(t, f, 0, 0x30)
	f.Cut(2)
	expect(t, "3 bytes, cut behind 2", f.Program(1, []byte{1, 2, 3}), api.ErrDown)
	expect(t, "down", f.Down(), true)
	f.Restore()
	holds(t, f, 0, 0x30, 1, 2, 255)
}

// P3.1: addresses and lengths at their edges.
func TestAddresses(t *testing.T) {
	f := flash.New(2, 16)
	for _, c := range []struct {
		at, n int
		want  api.Errno
	}{
		{0, 0, api.OK}, {0, 1, api.OK}, {0, 32, api.OK}, {15, 2, api.OK}, {31, 1, api.OK}, {32, 0, api.OK},
		{0, 33, api.ErrArg}, {31, 2, api.ErrArg}, {32, 1, api.ErrArg}, {33, 0, api.ErrArg}, {-1, 0, api.ErrArg}, {-1, 1, api.ErrArg}, {-1, 33, api.ErrArg}, {34, 1, api.ErrArg},
	} {
		b, e := f.Read(c.at, c.n)
		if e != c.want || len(b) != c.n && e == api.OK || b != nil && e != api.OK {
			t.Errorf("Read(%d, %d): %v, %d", c.at, c.n, b, e)
		}
		expect(t, "Program", f.Program(c.at, bytes.Repeat([]byte{255}, c.n)), c.want)
	}
	for _, n := range far {
		for _, at := range []int{0, 1, 32} {
			b, e := f.Read(at, n)
			if b != nil || e != api.ErrArg {
				t.Errorf("Read(%d, %d): %v, %d", at, n, b, e)
			}
		}
		b, e := f.Read(n, 0)
		if b != nil || e != api.ErrArg {
			t.Errorf("Read(%d, 0): %v, %d", n, b, e)
		}
		b, e = f.Read(n, n)
		if b != nil || e != api.ErrArg {
			t.Errorf("Read(%d, %d): %v, %d", n, n, b, e)
		}
		expect(t, "a far program", f.Program(n, []byte{1}), api.ErrArg)
		expect(t, "a far program of nothing", f.Program(n, nil), api.ErrArg)
		expect(t, "a far erase", f.Erase(n), api.ErrArg)
		expect(t, "a far sector's wear", f.Wear(n), 0)
	}
	expect(t, "bytes turned", f.Turned(), 0+1+32+2+1+0)
	expect(t, "all bytes", bytes.Equal(f.Image(), bytes.Repeat([]byte{255}, 32)), true)
}

// P3.1: errors, in their order; one that is refused turns nothing, and no wear.
func TestErrorsInOrder(t *testing.T) {
	f := flash.New(2, 16)
	f.Program(0, []byte{0x0F, 0x0F, 0x0F})
	before := f.Image()
	f.Cut(0)
	expect(t, "bits, the power would go too", f.Program(0, []byte{0x0F, 0x0F, 0x10}), api.ErrBits)
	expect(t, "no such address, bits too", f.Program(31, []byte{0xFF, 0}), api.ErrArg)
	expect(t, "no such sector", f.Erase(2), api.ErrArg)
	expect(t, "nothing", f.Program(0, nil), api.OK)
	_, e := f.Read(0, 32)
	expect(t, "read", e, api.OK)
	expect(t, "still up", f.Down(), false)
	expect(t, "goes within it", f.Program(0, []byte{0}), api.ErrDown)
	expect(t, "down", f.Down(), true)
	expect(t, "down, no such address", f.Program(99, nil), api.ErrDown)
	expect(t, "down, bits", f.Program(0, []byte{0xFF}), api.ErrDown)
	expect(t, "down, nothing", f.Program(0, nil), api.ErrDown)
	expect(t, "down, no such sector", f.Erase(-1), api.ErrDown)
	expect(t, "down, a sector", f.Erase(0), api.ErrDown)
	for _, c := range [][2]int{{0, 1}, {0, 0}, {-1, 1}, {0, 99}} {
		b, e := f.Read(c[0], c[1])
		if b != nil || e != api.ErrDown {
			t.Errorf("Read%v: %v, %d", c, b, e)
		}
	}
	expect(t, "turned", f.Turned(), 3)
	expect(t, "wear", f.Wear(0)+f.Wear(1), 0)
	expect(t, "all bytes, though it is down", bytes.Equal(f.Image(), before), true)
	expect(t, "size, though it is down", f.Size()+f.Sector(), 32+16)
}

// P3.1, P3.3: a bit that is 1 and is 0 in the flash refuses the whole program, wherever it is.
func TestBits(t *testing.T) {
	for place := range 16 {
		for bit := range 8 {
			f := flash.New(1, 16)
			b := bytes.Repeat([]byte{0x5A}, 16)
			f.Program(0, b)
			asked := make([]byte, 16)
			asked[place] = 1 << bit
			want := api.OK
			if 0x5A>>bit&1 == 0 {
				want, asked = api.ErrBits, b
			}
			turn := make([]byte, 16)
			turn[place] = 1 << bit
			expect(t, "Program", f.Program(0, turn), want)
			holds(t, f, 0, asked...)
		}
	}
}

// P3.1: every byte over every byte.
func TestEveryByteOverEveryByte(t *testing.T) {
	for a := range 256 {
		for b := range 256 {
			f := flash.New(1, 16)
			f.Program(7, []byte{byte(a)})
			want, e := byte(a&b), api.OK
			if a&b != b {
				want, e = byte(a), api.ErrBits
			}
			if got := f.Program(7, []byte{byte(b)}); got != e {
				t.Fatalf("%d over %d: %d, want %d", b, a, got, e)
			}
			if got := f.Image(); got[7] != want || got[6] != 255 || got[8] != 255 {
				t.Fatalf("%d over %d: %v", b, a, got)
			}
		}
	}
}

// P3.2: a program of any size that is cut at any byte has turned just its first bytes.
func TestProgramsThatAreCut(t *testing.T) {
	for size := range 21 {
		for cut := range 24 {
			f := flash.New(2, 16)
			old := bytes.Repeat([]byte{0xF0}, 32)
			f.Program(0, old)
			b := make([]byte, size)
			for i := range b {
				b[i] = byte(i%3) << 4 // some of them stay as they are, and count
			}
			if size > 4 {
				b[3] = 0xF0
			}
			f.Cut(cut)
			e := f.Program(6, b)
			turned := min(size, cut)
			want := slices.Concat(old[:6], b[:turned], old[6+turned:])
			if (e == api.ErrDown) != (cut < size) || e != api.OK && e != api.ErrDown || f.Down() != (cut < size) {
				t.Errorf("%d bytes, cut behind %d: %d, %v", size, cut, e, f.Down())
			}
			if !bytes.Equal(f.Image(), want) || f.Turned() != 32+turned {
				t.Errorf("%d bytes, cut behind %d: %v, %d turned", size, cut, f.Image(), f.Turned())
			}
		}
	}
}

// P3.1: an erase that is cut at any byte has turned its sector's first bytes, and counts as wear.
func TestErasesThatAreCut(t *testing.T) {
	for cut := range 19 {
		f := flash.New(3, 16)
		f.Program(0, make([]byte, 48))
		f.Cut(cut)
		e := f.Erase(1)
		turned := min(16, cut)
		want := slices.Concat(make([]byte, 16), bytes.Repeat([]byte{255}, turned), make([]byte, 32-turned))
		if (e == api.ErrDown) != (cut < 16) || f.Down() != (cut < 16) || !bytes.Equal(f.Image(), want) {
			t.Errorf("cut behind %d: %d, %v, %v", cut, e, f.Down(), f.Image())
		}
		if f.Wear(0) != 0 || f.Wear(1) != 1 || f.Wear(2) != 0 || f.Turned() != 48+turned {
			t.Errorf("cut behind %d: wear %d, %d turned", cut, f.Wear(1), f.Turned())
		}
	}
}

// P3.1: a cut counts over programs and erases; the latest one counts; one below 0 is none; the power is there again behind Restore and Load.
func TestCuts(t *testing.T) {
	f := flash.New(3, 16)
	f.Cut(20)
	expect(t, "two of 20", f.Program(0, []byte{1, 2}), api.OK)
	expect(t, "16 of 18", f.Erase(1), api.OK)
	expect(t, "two of two", f.Program(40, []byte{3, 4}), api.OK)
	expect(t, "up behind the last byte", f.Down(), false)
	expect(t, "one of none", f.Program(42, []byte{5}), api.ErrDown)
	f.Restore()
	expect(t, "up again", f.Down(), false)
	expect(t, "no cut ahead", f.Program(42, make([]byte, 6)), api.OK)

	f.Cut(1)
	f.Cut(3)
	expect(t, "the latest one", f.Program(0, []byte{0, 0, 0}), api.OK)
	f.Cut(2)
	f.Cut(-1)
	expect(t, "never", f.Program(0, []byte{0, 0, 0}), api.OK)
	f.Cut(0)
	f.Cut(math.MinInt)
	expect(t, "never, far below", f.Program(0, make([]byte, 48)), api.OK)
	f.Cut(math.MaxInt)
	expect(t, "far away", f.Erase(0), api.OK)

	f.Cut(0)
	f.Restore()
	expect(t, "Restore takes the cut away", f.Erase(0), api.OK)
	f.Cut(0)
	expect(t, "goes", f.Erase(0), api.ErrDown)
	f.Cut(-1)
	f.Cut(100)
	expect(t, "stays down", f.Down(), true)
	expect(t, "stays down for a program", f.Program(0, []byte{1}), api.ErrDown)
	f.Cut(1)
	f.Restore()
	expect(t, "no cut that was made while it was down", f.Erase(2), api.OK)
}

// P3.1: Load lays as many bytes as there are of both, sets bits too, and is up, without a cut; wear and what was turned stay.
func TestLoad(t *testing.T) {
	f := flash.New(2, 16)
	f.Erase(1)
	f.Program(0, make([]byte, 32))
	f.Cut(0)
	f.Erase(0)
	turned := f.Turned()
	f.Load([]byte{1, 0xFE, 3})
	want := append([]byte{1, 0xFE, 3}, make([]byte, 29)...)
	expect(t, "up", f.Down(), false)
	expect(t, "three bytes", bytes.Equal(f.Image(), want), true)
	expect(t, "no cut ahead", f.Program(3, []byte{0}), api.OK)
	f.Cut(0)
	f.Load(nil)
	expect(t, "nothing", bytes.Equal(f.Image(), want), true)
	expect(t, "no cut that hasn't come", f.Program(3, []byte{0}), api.OK)
	long := bytes.Repeat([]byte{7}, 40)
	f.Load(long)
	expect(t, "too many bytes", bytes.Equal(f.Image(), long[:32]), true)
	expect(t, "wear", f.Wear(0)*10+f.Wear(1), 11)
	expect(t, "turned", f.Turned(), turned+2)
	g := flash.New(5, 20)
	g.Load(f.Image())
	expect(t, "another one's image", bytes.Equal(g.Image()[:33], append(f.Image(), 255)), true)
}

// P3.4: answers are new memory, spare room too.
func TestAnswersAreNewMemory(t *testing.T) {
	f := flash.New(2, 16)
	for range 2 {
		for _, n := range []int{0, 1, 5, 31} {
			a, _ := f.Read(1, n)
			b, _ := f.Read(1, n)
			for i := range a[:cap(a)] {
				a[:cap(a)][i] = 9
			}
			expect(t, "Read's answer is its own", bytes.Equal(b, bytes.Repeat([]byte{255}, n)), true)
		}
		a, b := f.Image(), f.Image()
		for i := range a[:cap(a)] {
			a[:cap(a)][i] = 9
		}
		expect(t, "Image's answer is its own", bytes.Equal(b, bytes.Repeat([]byte{255}, 32)), true)
	}
	holds(t, f, 0, bytes.Repeat([]byte{255}, 32)...)
}

// P3.4: what is handed in is neither changed nor kept, its spare room neither.
func TestArgumentsStay(t *testing.T) {
	f := flash.New(2, 16)
	room := []byte{1, 2, 3, 4, 5, 6}
	f.Program(0, room[1:3])
	f.Cut(1)
	f.Program(8, room[1:3])
	f.Load(room[2:4])
	expect(t, "handed in", bytes.Equal(room, []byte{1, 2, 3, 4, 5, 6}), true)
	clear(room)
	holds(t, f, 0, 3, 4, 255)
	holds(t, f, 8, 2, 255)
	long := bytes.Repeat([]byte{7}, 40)
	f.Load(long)
	clear(long)
	holds(t, f, 0, bytes.Repeat([]byte{7}, 32)...)
}

// P1: one that New didn't make has no bytes, and panics nowhere.
func TestOneThatWasNeverMade(t *testing.T) {
	f := new(flash.Flash)
	f.Cut(0)
	f.Load([]byte{1})
	b, e := f.Read(0, 1)
	if b != nil || e != api.ErrArg || f.Program(0, []byte{1}) != api.ErrArg || f.Erase(0) != api.ErrArg {
		t.Error("a byte is there")
	}
	f.Restore()
	if f.Size()+f.Sector()+f.Wear(0)+f.Turned()+len(f.Image()) != 0 || f.Down() {
		t.Error("something is there")
	}
}

// model is a flash that is written otherwise: by bits, byte by byte.
type model struct {
	sectors, size int
	set           []bool // by bit
	wear          []int
	turned, left  int // left below 0: never
	down          bool
}

func newModel(sectors, size int) *model {
	m := &model{sectors: sectors, size: size, set: make([]bool, sectors*size*8), wear: make([]int, sectors), left: -1}
	for i := range m.set {
		m.set[i] = true
	}
	return m
}

func (m *model) image() []byte {
	b := make([]byte, m.sectors*m.size)
	for i, set := range m.set {
		if set {
			b[i/8] |= 1 << (i % 8)
		}
	}
	return b
}

func (m *model) lay(at int, v byte) {
	for bit := range 8 {
		m.set[at*8+bit] = v>>bit&1 == 1
	}
}

// turnOne turns a byte, if the power lasts for it.
func (m *model) turnOne(at int, v byte) bool {
	if m.left == 0 {
		m.down = true
		return false
	}
	if m.left > 0 {
		m.left--
	}
	m.turned++
	m.lay(at, v)
	return true
}

func (m *model) outside(at, n int) bool {
	return at < 0 || at > m.sectors*m.size || n < 0 || at+n > m.sectors*m.size
}

func (m *model) program(at int, b []byte) api.Errno {
	if m.down {
		return api.ErrDown
	}
	if m.outside(at, len(b)) {
		return api.ErrArg
	}
	now := m.image()
	for i, v := range b {
		if v&now[at+i] != v {
			return api.ErrBits
		}
	}
	for i, v := range b {
		if !m.turnOne(at+i, v&now[at+i]) {
			return api.ErrDown
		}
	}
	return api.OK
}

func (m *model) erase(sector int) api.Errno {
	if m.down {
		return api.ErrDown
	}
	if sector < 0 || sector >= m.sectors {
		return api.ErrArg
	}
	m.wear[sector]++
	for i := range m.size {
		if !m.turnOne(sector*m.size+i, 255) {
			return api.ErrDown
		}
	}
	return api.OK
}

// step does the same with both, and tells whether they answer the same.
func step(r *rand.Rand, f *flash.Flash, m *model) (string, bool) {
	all := m.sectors * m.size
	switch r.Intn(9) {
	case 0, 1, 2, 3:
		at, b := r.Intn(all+4)-2, make([]byte, r.Intn(m.size+3))
		now := m.image()
		for i := range b {
			b[i] = byte(r.Intn(256))
			if at+i >= 0 && at+i < all && r.Intn(200) > 0 {
				b[i] &= now[at+i]
			}
		}
		return "Program", f.Program(at, b) == m.program(at, b)
	case 4, 5:
		sector := r.Intn(m.sectors+2) - 1
		return "Erase", f.Erase(sector) == m.erase(sector)
	case 6:
		n := r.Intn(3*m.size) - 3
		f.Cut(n)
		m.left = max(n, -1)
		return "Cut", true
	case 7:
		f.Restore()
		m.left, m.down = -1, false
		return "Restore", true
	}
	if r.Intn(4) > 0 {
		return "Read", readsTheSame(f, m, r.Intn(all+4)-2, r.Intn(all+4)-2)
	}
	b := make([]byte, r.Intn(all+5))
	for i := range b {
		b[i] = byte(r.Intn(256))
	}
	f.Load(b)
	for i, v := range b[:min(len(b), all)] {
		m.lay(i, v)
	}
	m.left, m.down = -1, false
	return "Load", true
}

func readsTheSame(f *flash.Flash, m *model, at, n int) bool {
	b, e := f.Read(at, n)
	switch {
	case m.down:
		return b == nil && e == api.ErrDown
	case m.outside(at, n):
		return b == nil && e == api.ErrArg
	}
	return e == api.OK && bytes.Equal(b, m.image()[at:at+n])
}

// P3.1 to P3.3: every call answers as said, whatever was called ahead.
func TestWhateverWasCalledAhead(t *testing.T) {
	for seed := range 300 {
		r := rand.New(rand.NewSource(int64(seed)))
		sectors, size := 1+r.Intn(4), 16+r.Intn(9)
		f, m := flash.New(sectors, size), newModel(sectors, size)
		for i := range 120 {
			before, up, wear := f.Image(), !f.Down(), 0
			what, same := step(r, f, m)
			for s := range sectors {
				same = same && f.Wear(s) == m.wear[s]
				wear += f.Wear(s)
			}
			if !same || f.Down() != m.down || f.Turned() != m.turned || !bytes.Equal(f.Image(), m.image()) {
				t.Fatalf("seed %d, step %d, %s: %v, %d turned, wear %d, %v, want %v, %d turned, wear %v, %v",
					seed, i, what, f.Down(), f.Turned(), wear, f.Image(), m.down, m.turned, m.wear, m.image())
			}
			for at, v := range f.Image() {
				if v&^before[at] != 0 && what != "Load" && !(what == "Erase" && up) {
					t.Fatalf("seed %d, step %d: %s has set a bit at %d", seed, i, what, at)
				}
			}
		}
	}
}

// P2: two that the same is done with answer the same, and one has nothing of the other.
func TestFlashesAreTheirOwn(t *testing.T) {
	f, g, idle := flash.New(2, 16), flash.New(2, 16), flash.New(2, 16)
	for _, x := range []*flash.Flash{f, g} {
		x.Program(3, []byte{1, 2, 3})
		x.Erase(1)
		x.Cut(1)
		x.Program(20, []byte{1, 2, 3})
	}
	expect(t, "images", bytes.Equal(f.Image(), g.Image()), true)
	expect(t, "turned", f.Turned(), g.Turned())
	expect(t, "wear", f.Wear(1), g.Wear(1))
	if idle.Down() || idle.Turned() != 0 || idle.Wear(1) != 0 || !bytes.Equal(idle.Image(), bytes.Repeat([]byte{255}, 32)) {
		t.Error("another one was turned")
	}
}

// P3.1: what was turned is counted up to MaxWear.
func TestTurnedIsBounded(t *testing.T) {
	f := flash.New(64, 4096)
	b := f.Image()
	steps := api.MaxWear / len(b)
	for range steps - 1 {
		f.Program(0, b)
	}
	f.Program(0, b[1:])
	expect(t, "one byte less", f.Turned(), api.MaxWear-1)
	f.Program(0, b[:1])
	expect(t, "the last that counts", f.Turned(), api.MaxWear)
	f.Program(0, b[:1])
	f.Program(0, b)
	f.Erase(0)
	expect(t, "more", f.Turned(), api.MaxWear)
	f.Cut(1)
	expect(t, "a cut behind it", f.Program(0, b[:2]), api.ErrDown)
}
