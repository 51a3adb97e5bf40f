package part_test

import (
	"bytes"
	"math"
	"math/rand"
	"slices"
	"testing"

	"outpost/api"
	"outpost/flash"
	"outpost/part"
)

// far are numbers that no address and no length may be.
var far = []int{math.MinInt, math.MinInt + 1, -1 << 32, -1, 1 << 31, 1 << 32, math.MaxInt - 16, math.MaxInt}

func expect(t *testing.T, what string, got, want any) {
	t.Helper()
	if got != want {
		t.Errorf("%s: %v, want %v", what, got, want)
	}
}

func ones(n int) []byte { return bytes.Repeat([]byte{255}, n) }

// made is sectors 1 and 2 of a flash of five, of 16 bytes each.
func made(t *testing.T) (*flash.Flash, *part.Part) {
	t.Helper()
	f := flash.New(5, 16)
	p, e := part.New(f, 1, 2)
	if e != api.OK || p == nil {
		t.Fatal(e)
	}
	return f, p
}

// P4.1: every range of sectors, those that aren't there too.
func TestNew(t *testing.T) {
	f := flash.New(5, 20)
	for first := -3; first < 9; first++ {
		for count := -3; count < 9; count++ {
			want := api.ErrArg
			if first >= 0 && count >= 1 && first+count <= 5 {
				want = api.OK
			}
			p, e := part.New(f, first, count)
			if e != want || (p == nil) != (want != api.OK) {
				t.Errorf("New of %d, %d: %v, %d, want %d", first, count, p, e, want)
			}
			if p != nil && (p.Size() != 20*count || p.Flash() != f || p.Wear() != 0) {
				t.Errorf("New of %d, %d: size %d, wear %d", first, count, p.Size(), p.Wear())
			}
		}
	}
	for _, n := range far {
		for _, c := range [][2]int{{n, 1}, {0, n}, {1, n}, {n, n}, {4, n}, {n, -n}, {n, 0}} {
			p, e := part.New(f, c[0], c[1])
			if p != nil || e != api.ErrArg {
				t.Errorf("New of %v: %v, %d", c, p, e)
			}
		}
	}
	expect(t, "New turns nothing", f.Turned(), 0)
}

// P4.1: it is made though the power has gone; of no flash, and of one without sectors, there is none.
func TestNewOfAnyFlash(t *testing.T) {
	f := flash.New(2, 16)
	f.Cut(0)
	f.Erase(0)
	p, e := part.New(f, 0, 2)
	if p == nil || e != api.OK || p.Size() != 32 || p.Wear() != 1 || p.Flash() != f {
		t.Errorf("down: %v, %d", p, e)
	}
	for _, f := range []*flash.Flash{nil, new(flash.Flash)} {
		p, e := part.New(f, 0, 1)
		if p != nil || e != api.ErrArg {
			t.Errorf("no flash: %v, %d", p, e)
		}
	}
}

// P4.1: the document's own examples.
func TestExamples(t *testing.T) {
	f, p := made(t)
	expect(t, "size", p.Size(), 32)
	expect(t, "address 0", p.Write(0, []byte{7}), api.OK)
	expect(t, "is the flash's 16", bytes.Equal(f.Image(), slices.Concat(ones(16), []byte{7}, ones(63))), true)
	expect(t, "3 bytes at 30", p.Write(30, []byte{1, 2, 3}), api.ErrArg)
}

// P4.1: addresses and lengths at their edges, for each call that takes them.
func TestAddresses(t *testing.T) {
	f, p := made(t)
	f.Program(0, make([]byte, 16))
	f.Program(48, make([]byte, 32))
	before := f.Image()
	type span struct{ at, n int }
	spans := []span{{34, 1}, {80, 0}, {48, -16}, {-16, 16}, {-16, 48}, {-1, 2}}
	for at := -2; at < 36; at++ {
		for n := -2; n < 36; n++ {
			spans = append(spans, span{at, n})
		}
	}
	for _, n := range far {
		spans = append(spans, span{n, 0}, span{0, n}, span{n, n}, span{1, n}, span{32, n}, span{n, 1}, span{n, -n})
	}
	for _, c := range spans {
		want := api.ErrArg
		if c.at >= 0 && c.at <= 32 && c.n >= 0 && c.n <= 32-c.at {
			want = api.OK
		}
		b, e := p.Read(c.at, c.n)
		if e != want || e != api.OK && b != nil || e == api.OK && !bytes.Equal(b, ones(c.n)) {
			t.Errorf("Read of %v: %v, %d, want %d", c, b, e, want)
		}
		blank, e := p.Blank(c.at, c.n)
		if e != want || blank != (want == api.OK) {
			t.Errorf("Blank of %v: %v, %d, want %d", c, blank, e, want)
		}
		if c.n < 0 || c.n > 64 {
			c.n, want = 0, api.OK
			if c.at < 0 || c.at > 32 {
				want = api.ErrArg
			}
		}
		if e := p.Write(c.at, ones(c.n)); e != want {
			t.Errorf("Write of %v: %d, want %d", c, e, want)
		}
	}
	expect(t, "nothing was turned but as it was", bytes.Equal(f.Image(), before), true)
}

// P4.1: errors, in their order.
func TestErrorsInOrder(t *testing.T) {
	f, p := made(t)
	p.Write(0, []byte{0x0F})
	f.Cut(0)
	expect(t, "no such address, bits too", p.Write(31, []byte{0xFF, 0}), api.ErrArg)
	expect(t, "bits, the power would go too", p.Write(0, []byte{0xF0}), api.ErrBits)
	expect(t, "nothing", p.Write(32, nil), api.OK)
	n, e := p.Used()
	expect(t, "used, the power hasn't gone yet", n*100+int(e), 100)
	blank, e := p.Blank(1, 31)
	expect(t, "blank, the power hasn't gone yet", blank && e == api.OK, true)
	expect(t, "the power goes within it", p.Write(0, []byte{0}), api.ErrDown)
	for _, c := range [][2]int{{0, 0}, {0, 1}, {-1, 0}, {33, 0}, {0, 33}, {0, -1}} {
		b, e := p.Read(c[0], c[1])
		if b != nil || e != api.ErrDown {
			t.Errorf("down, Read of %v: %v, %d", c, b, e)
		}
		blank, e := p.Blank(c[0], c[1])
		if blank || e != api.ErrDown {
			t.Errorf("down, Blank of %v: %v, %d", c, blank, e)
		}
		expect(t, "down, Write", p.Write(c[0], nil), api.ErrDown)
	}
	expect(t, "down, Write of bits", p.Write(0, []byte{0xFF}), api.ErrDown)
	expect(t, "down, Clear", p.Clear(), api.ErrDown)
	n, e = p.Used()
	expect(t, "down, Used", n*100+int(e), int(api.ErrDown))
	expect(t, "down, wear", p.Wear(), 0)
	expect(t, "down, size", p.Size(), 32)
	expect(t, "turned", f.Turned(), 1)
}

// P4.1: Clear erases every sector of the part, blank ones too, and none beside it.
func TestClear(t *testing.T) {
	f, p := made(t)
	f.Program(0, make([]byte, 80))
	expect(t, "Clear", p.Clear(), api.OK)
	want := slices.Concat(make([]byte, 16), ones(32), make([]byte, 32))
	expect(t, "just the part is erased", bytes.Equal(f.Image(), want), true)
	expect(t, "Clear of a blank one", p.Clear(), api.OK)
	for i, wear := range []int{0, 2, 2, 0, 0} {
		expect(t, "wear", f.Wear(i), wear)
	}
	expect(t, "turned", f.Turned(), 80+2*32)
}

// P4.1: a Clear that is cut has erased the first bytes, and begun no sector behind them.
func TestClearsThatAreCut(t *testing.T) {
	for cut := range 36 {
		f, p := made(t)
		f.Program(0, make([]byte, 80))
		f.Cut(cut)
		e := p.Clear()
		turned := min(cut, 32)
		want := slices.Concat(make([]byte, 16), ones(turned), make([]byte, 64-turned))
		if (e == api.ErrDown) != (cut < 32) || f.Down() != (cut < 32) || !bytes.Equal(f.Image(), want) {
			t.Errorf("cut behind %d: %d, %v, %v", cut, e, f.Down(), f.Image())
		}
		second := 0
		if cut >= 16 {
			second = 1
		}
		if f.Wear(1) != 1 || f.Wear(2) != second || f.Wear(0)+f.Wear(3) != 0 {
			t.Errorf("cut behind %d: wear %d, %d", cut, f.Wear(1), f.Wear(2))
		}
	}
}

// P4.1: wear is that of the part's most worn sector, whoever erased it, of no other.
func TestWear(t *testing.T) {
	f, p := made(t)
	for i, erases := range []int{9, 2, 3, 7, 8} {
		for range erases {
			f.Erase(i)
		}
	}
	expect(t, "the last one's", p.Wear(), 3)
	f.Erase(1)
	f.Erase(1)
	expect(t, "the first one's", p.Wear(), 4)
	p.Clear()
	expect(t, "Clear's too", p.Wear(), 5)
}

// P4.1: a byte that isn't 255, wherever it is, is told by Blank and Used.
func TestBlankAndUsed(t *testing.T) {
	for place := range 32 {
		for _, v := range []byte{0, 1, 127, 254} {
			f, p := made(t)
			f.Program(15, []byte{0})
			f.Program(48, []byte{0})
			n, e := p.Used()
			expect(t, "Used of a blank one", n*100+int(e), 0)
			p.Write(place, []byte{v})
			n, e = p.Used()
			expect(t, "Used", n*100+int(e), (place+1)*100)
			for at := range 33 {
				for n := range 33 - at {
					blank, e := p.Blank(at, n)
					if e != api.OK || blank != (place < at || place >= at+n) {
						t.Fatalf("Blank(%d, %d) with %d at %d: %v, %d", at, n, v, place, blank, e)
					}
				}
			}
		}
	}
}

// P4.2: what is written to a cleared part is read as it, whole and in pieces.
func TestWrittenIsRead(t *testing.T) {
	r := rand.New(rand.NewSource(4))
	f, p := made(t)
	for range 300 {
		p.Write(0, make([]byte, 32))
		p.Clear()
		b := make([]byte, r.Intn(33))
		for i := range b {
			b[i] = byte(r.Intn(256)) | byte(r.Intn(2)*255)
		}
		at, cut := r.Intn(33-len(b)), r.Intn(len(b)+1)
		if p.Write(at, b[:cut]) != api.OK || p.Write(at+cut, b[cut:]) != api.OK {
			t.Fatal("a cleared part isn't written to")
		}
		got, e := p.Read(at, len(b))
		all, _ := p.Read(0, 32)
		want := slices.Concat(ones(at), b, ones(32-at-len(b)))
		if e != api.OK || !bytes.Equal(got, b) || !bytes.Equal(all, want) || !bytes.Equal(f.Image()[16:48], want) {
			t.Fatalf("%v at %d: %v, %d, %v", b, at, got, e, all)
		}
		end := 0
		for i, v := range want {
			if v != 255 {
				end = i + 1
			}
		}
		n, e := p.Used()
		expect(t, "Used", n*100+int(e), end*100)
	}
}

// P4.1, P4.2: two parts side by side have nothing of each other, whatever is called; the power is the flash's, for both.
func TestPartsSideBySide(t *testing.T) {
	for seed := range 100 {
		r := rand.New(rand.NewSource(int64(seed)))
		f := flash.New(6, 17)
		firsts, counts := []int{0, 2, 5}, []int{1, 3, 1}
		parts := make([]*part.Part, 3)
		for i := range parts {
			parts[i], _ = part.New(f, firsts[i], counts[i])
		}
		for range 100 {
			i := r.Intn(3)
			p, before := parts[i], f.Image()
			f.Cut(r.Intn(100))
			var e api.Errno
			if r.Intn(5) == 0 {
				e = p.Clear()
			} else {
				b := make([]byte, r.Intn(20))
				for i := range b {
					b[i] = byte(r.Intn(2) * 255)
				}
				e = p.Write(r.Intn(p.Size()+4)-2, b)
			}
			after, from, to := f.Image(), firsts[i]*17, (firsts[i]+counts[i])*17
			if !bytes.Equal(before[:from], after[:from]) || !bytes.Equal(before[to:], after[to:]) {
				t.Fatalf("seed %d: part %d turns what is beyond it: %d", seed, i, e)
			}
			if f.Down() != (e == api.ErrDown) {
				t.Fatalf("seed %d: down %v, %d", seed, f.Down(), e)
			}
			_, e = parts[r.Intn(3)].Used()
			if f.Down() != (e == api.ErrDown) {
				t.Fatalf("seed %d: down %v, Used %d", seed, f.Down(), e)
			}
			f.Restore()
			got, e := p.Read(0, p.Size())
			if e != api.OK || !bytes.Equal(got, after[from:to]) {
				t.Fatalf("seed %d: part %d reads %v, %d", seed, i, got, e)
			}
		}
	}
}

// P4.2: a write that the power cuts has turned its first bytes, and they are read behind a Restore.
func TestWritesThatAreCut(t *testing.T) {
	for cut := range 7 {
		f, p := made(t)
		f.Cut(cut)
		e := p.Write(14, []byte{1, 2, 3, 4, 5})
		expect(t, "down", e == api.ErrDown, cut < 5)
		f.Restore()
		got, _ := p.Read(13, 7)
		want := slices.Concat(ones(1), []byte{1, 2, 3, 4, 5}[:min(cut, 5)], ones(6-min(cut, 5)))
		if !bytes.Equal(got, want) {
			t.Errorf("cut behind %d: %v", cut, got)
		}
	}
}

// P4.3: answers are new memory, spare room too.
func TestAnswersAreNewMemory(t *testing.T) {
	f, p := made(t)
	p.Write(0, []byte{1, 2, 3, 4})
	before := f.Image()
	a, _ := p.Read(1, 3)
	b, _ := p.Read(1, 3)
	for i := range a[:cap(a)] {
		a[:cap(a)][i] = 9
	}
	expect(t, "another answer", bytes.Equal(b, []byte{2, 3, 4}), true)
	expect(t, "the flash", bytes.Equal(f.Image(), before), true)
}

// P4.3: what is handed in is neither changed nor kept, its spare room neither.
func TestArgumentsStay(t *testing.T) {
	_, p := made(t)
	room := []byte{1, 2, 3, 4}
	p.Write(3, room[1:3])
	expect(t, "handed in", bytes.Equal(room, []byte{1, 2, 3, 4}), true)
	clear(room)
	got, _ := p.Read(2, 4)
	expect(t, "written", bytes.Equal(got, []byte{255, 2, 3, 255}), true)
}

// P1: one that New didn't make has no flash, and panics nowhere.
func TestOneThatWasNeverMade(t *testing.T) {
	p := new(part.Part)
	b, e := p.Read(0, 0)
	blank, e2 := p.Blank(0, 0)
	n, e3 := p.Used()
	if b != nil || blank || n != 0 || e != api.ErrDown || e2 != api.ErrDown || e3 != api.ErrDown || p.Write(0, nil) != api.ErrDown {
		t.Error("there is power")
	}
	p.Clear()
	if p.Size() != 0 || p.Wear() != 0 || p.Flash() != nil {
		t.Error("something is there")
	}
}
