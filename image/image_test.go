package image_test

import (
	"bytes"
	"crypto/sha256"
	"encoding/binary"
	"hash/crc32"
	"math"
	"math/rand"
	"strings"
	"testing"

	"outpost/api"
	"outpost/image"
)

const mostSize = 1 << 20

// signs are all that may stand in a name.
const signs = "abcdefghijklmnopqrstuvwxyz0123456789.-_"

// raw are a head's bytes, made otherwise, of whatever is told: name is laid into its 16 bytes as it is.
func raw(version, size uint32, name string, digest [32]byte) []byte {
	b := binary.LittleEndian.AppendUint32([]byte("OTPX"), version)
	b = binary.LittleEndian.AppendUint32(b, size)
	b = append(b, name...)
	b = append(b, make([]byte, 28-len(b))...)
	b = append(b, digest[:]...)
	return binary.LittleEndian.AppendUint32(b, crc32.ChecksumIEEE(b))
}

// whole is an image, made otherwise.
func whole(name string, version uint32, body []byte) []byte {
	return append(raw(version, uint32(len(body)), name, sha256.Sum256(body)), body...)
}

// sealed are 64 bytes with the sum of the first 60 made right.
func sealed(b []byte) []byte {
	c := bytes.Clone(b)
	binary.LittleEndian.PutUint32(c[60:], crc32.ChecksumIEEE(c[:60]))
	return c
}

func reads(t *testing.T, what string, b []byte, want image.Head, wrong api.Errno) {
	t.Helper()
	if h, e := image.Read(b); h != want || e != wrong {
		t.Errorf("%s: Read: %v, %d, want %v, %d", what, h, e, want, wrong)
	}
}

func checks(t *testing.T, what string, b []byte, want image.Head, wrong api.Errno) {
	t.Helper()
	if h, e := image.Check(b); h != want || e != wrong {
		t.Errorf("%s: Check: %v, %d, want %v, %d", what, h, e, want, wrong)
	}
}

// names are some that are right, and some that aren't.
func names() (right, wrong []string) {
	right = []string{"app", strings.Repeat("z", 16), signs[:16], signs[16:32], signs[23:]}
	for _, r := range signs {
		right = append(right, string(r), "a"+string(r)+"z")
	}
	wrong = []string{"", strings.Repeat("a", 17), strings.Repeat("a", 300), "é", "aé", "ａ", "a\xff", "\xff", "a\xc3", "\x00", "a\x00", "a\x00b", "\x00a", "ſ", "K", "٣", "a\u200b"}
	for c := range rune(300) {
		if !strings.ContainsRune(signs, c) {
			wrong = append(wrong, string(c), "a"+string(c), string(c)+"a", string([]byte{byte(c % 128), 0x80}))
		}
	}
	return right, wrong
}

// P6.1: the document's own example.
func TestExample(t *testing.T) {
	b, e := image.Make("app", 7, []byte("hello"))
	if e != api.OK || len(b) != 69 || string(b[:15]) != "OTPX\x07\x00\x00\x00\x05\x00\x00\x00app" {
		t.Fatalf("%q, %d", b, e)
	}
	if !bytes.Equal(b, whole("app", 7, []byte("hello"))) {
		t.Errorf("%q", b)
	}
	h := image.Head{Version: 7, Size: 5, Name: "app", Digest: sha256.Sum256([]byte("hello"))}
	reads(t, "the example", b, h, api.OK)
	checks(t, "the example", b, h, api.OK)
}

// P6.1, P6.2: of each name and size that is right a head is written and read as it; of others none is.
func TestNamesAndSizes(t *testing.T) {
	d := sha256.Sum256([]byte("x"))
	right, wrong := names()
	for _, name := range right {
		h := image.Head{Version: 3, Size: 9, Name: name, Digest: d}
		b, e := image.Write(h)
		if !image.Right(h) || e != api.OK || !bytes.Equal(b, raw(3, 9, name, d)) {
			t.Errorf("%q: %q, %d", name, b, e)
		}
		reads(t, name, b, h, api.OK)
	}
	for _, name := range wrong {
		h := image.Head{Version: 3, Size: 9, Name: name, Digest: d}
		if b, e := image.Write(h); image.Right(h) || b != nil || e != api.ErrArg {
			t.Errorf("%q: %v, %q, %d", name, image.Right(h), b, e)
		}
		if b, e := image.Make(name, 3, []byte("x")); b != nil || e != api.ErrArg {
			t.Errorf("%q: Make: %q, %d", name, b, e)
		}
	}
	for _, size := range []int{0, 1, 255, 256, 65536, mostSize - 1, mostSize} {
		h := image.Head{Size: size, Name: "a"}
		b, e := image.Write(h)
		if !image.Right(h) || e != api.OK || !bytes.Equal(b, raw(0, uint32(size), "a", [32]byte{})) {
			t.Errorf("%d: %q, %d", size, b, e)
		}
		reads(t, "size", b, h, api.OK)
	}
	for _, size := range []int{-1, math.MinInt, mostSize + 1, math.MaxInt, math.MaxInt32, 1 << 31, 1 << 32, 1<<32 + 1} {
		h := image.Head{Size: size, Name: "a"}
		if b, e := image.Write(h); image.Right(h) || b != nil || e != api.ErrArg {
			t.Errorf("%d: %v, %q, %d", size, image.Right(h), b, e)
		}
	}
	if image.Right(image.Head{}) {
		t.Error("a head of nothing is right")
	}
}

// P6.1: numbers stand with the lowest byte first, whatever they are; a digest is any 32 bytes.
func TestVersionsAndDigests(t *testing.T) {
	for _, version := range []uint32{0, 1, 255, 256, 0x01020304, 1 << 31, math.MaxUint32} {
		for _, d := range [][32]byte{{}, {0: 1, 31: 2}, sha256.Sum256(nil), [32]byte(bytes.Repeat([]byte{255}, 32))} {
			h := image.Head{Version: version, Size: 258, Name: "a-b_c.0", Digest: d}
			b, e := image.Write(h)
			if e != api.OK || !bytes.Equal(b, raw(version, 258, "a-b_c.0", d)) {
				t.Errorf("%v: %q, %d", h, b, e)
			}
			reads(t, "version", b, h, api.OK)
		}
	}
}

// P6.1: Read's errors in their order, nothing beside them.
func TestErrorsOfRead(t *testing.T) {
	b := raw(7, 5, "app", sha256.Sum256([]byte("hello")))
	for n := range 64 {
		reads(t, "fewer bytes", b[:n], image.Head{}, api.ErrForm)
		reads(t, "fewer others", make([]byte, n), image.Head{}, api.ErrForm)
	}
	reads(t, "nil", nil, image.Head{}, api.ErrForm)
	for i := range 64 * 8 {
		c := bytes.Clone(b)
		c[i/8] ^= 1 << (i % 8)
		want := api.ErrSum
		if i < 4*8 {
			want = api.ErrMagic
			reads(t, "another beginning with a sum that is right", sealed(c), image.Head{}, want)
		}
		reads(t, "a bit turned", c, image.Head{}, want)
	}
	reads(t, "zeros", make([]byte, 64), image.Head{}, api.ErrMagic)
	reads(t, "erased", bytes.Repeat([]byte{255}, 300), image.Head{}, api.ErrMagic)
	_, wrong := names()
	for _, name := range wrong {
		if len(name) > 16 {
			continue
		}
		if c := raw(7, 5, name, [32]byte{}); strings.TrimRight(name, "\x00") != "a" {
			reads(t, "a name that is wrong, "+name, c, image.Head{}, api.ErrForm)
			c[61]++
			reads(t, "a sum that is wrong too", c, image.Head{}, api.ErrSum)
		}
	}
	for i := 1; i < 15; i++ {
		name := []byte(strings.Repeat("n", 16))
		name[i] = 0
		reads(t, "bytes behind a 0", raw(7, 5, string(name), [32]byte{}), image.Head{}, api.ErrForm)
		name = append(append([]byte{}, name[:i+1]...), make([]byte, 15-i)...)
		reads(t, "zeros behind a 0", raw(7, 5, string(name), [32]byte{}), image.Head{Version: 7, Size: 5, Name: string(name[:i])}, api.OK)
		name[15] = 255
		reads(t, "a last byte that isn't 0", raw(7, 5, string(name), [32]byte{}), image.Head{}, api.ErrForm)
	}
	for _, size := range []uint32{mostSize + 1, 1 << 21, math.MaxInt32, 1 << 31, math.MaxUint32} {
		reads(t, "a size that is wrong", raw(7, size, "app", [32]byte{}), image.Head{}, api.ErrForm)
	}
}

// P6.1: Read has eyes for the first 64 bytes alone.
func TestReadOfMoreBytes(t *testing.T) {
	h := image.Head{Version: 7, Size: mostSize, Name: strings.Repeat("x", 16)}
	b := raw(7, mostSize, h.Name, h.Digest)
	for _, more := range [][]byte{nil, {0}, []byte("OTPX"), make([]byte, 1000)} {
		reads(t, "more bytes", append(bytes.Clone(b), more...), h, api.OK)
	}
}

// P6.1: Check's errors in their order.
func TestErrorsOfCheck(t *testing.T) {
	for _, body := range [][]byte{nil, {0}, []byte("hello"), bytes.Repeat([]byte("abc"), 100)} {
		b := whole("app", 7, body)
		h := image.Head{Version: 7, Size: len(body), Name: "app", Digest: sha256.Sum256(body)}
		checks(t, "whole", b, h, api.OK)
		for n := range len(b) {
			want := api.ErrForm
			if n >= 64 {
				want = api.ErrSize
			}
			checks(t, "cut off", b[:n], image.Head{}, want)
		}
		checks(t, "one byte more", append(bytes.Clone(b), 0), image.Head{}, api.ErrSize)
		for i := range 8 * len(b) {
			c := bytes.Clone(b)
			c[i/8] ^= 1 << (i % 8)
			want := api.ErrSum
			if i < 4*8 {
				want = api.ErrMagic
			}
			checks(t, "a bit turned", c, image.Head{}, want)
			if i/8 < 64 {
				checks(t, "a bit of the head, and more bytes", append(c, 1, 2), image.Head{}, want)
			} else {
				checks(t, "a bit of the body, and more bytes", append(c, 1, 2), image.Head{}, api.ErrSize)
			}
		}
		for i := 28; i < 60; i++ {
			c := bytes.Clone(b)
			c[i]++
			checks(t, "another digest", append(sealed(c[:64]), body...), image.Head{}, api.ErrSum)
		}
		wrong := append(raw(7, uint32(len(body)), "App", h.Digest), body...)
		checks(t, "a name that is wrong, and another size", append(wrong, 0), image.Head{}, api.ErrForm)
	}
	checks(t, "nothing", nil, image.Head{}, api.ErrForm)
}

// P6.1: as many bytes as there may be, and one more; the name is told ahead of them.
func TestBoundOfMake(t *testing.T) {
	most := bytes.Repeat([]byte("0123456789abcdef"), mostSize/16)
	b, e := image.Make("app", 1, most)
	if e != api.OK || !bytes.Equal(b, whole("app", 1, most)) {
		t.Errorf("the most: %d bytes, %d", len(b), e)
	}
	checks(t, "the most", b, image.Head{Version: 1, Size: mostSize, Name: "app", Digest: sha256.Sum256(most)}, api.OK)
	more := append(bytes.Clone(most), 0)
	if b, e := image.Make("app", 1, more); b != nil || e != api.ErrLong {
		t.Errorf("one more: %d bytes, %d", len(b), e)
	}
	if b, e := image.Make("App", 1, more); b != nil || e != api.ErrArg {
		t.Errorf("one more, and no name: %d bytes, %d", len(b), e)
	}
	checks(t, "one more", append(bytes.Clone(b), 0), image.Head{}, api.ErrSize)
	checks(t, "too many, as the head says", append(raw(1, mostSize+1, "app", sha256.Sum256(more)), more...), image.Head{}, api.ErrForm)
}

// P6.1: what stands behind the first 64 bytes, whatever it is.
func TestBody(t *testing.T) {
	b := make([]byte, 200)
	rand.New(rand.NewSource(1)).Read(b)
	for n := range b {
		want := b[min(n, 64):n]
		if got := image.Body(b[:n]); !bytes.Equal(got, want) || n < 64 && got != nil {
			t.Errorf("%d bytes: %v", n, got)
		}
	}
	if got := image.Body(nil); got != nil {
		t.Errorf("%v", got)
	}
}

// P6.2, P5: what Make makes is checked as its name, version and body; what is read is written as the same bytes.
func TestThereAndBack(t *testing.T) {
	r := rand.New(rand.NewSource(2))
	for range 2000 {
		name := make([]byte, 1+r.Intn(16))
		for i := range name {
			name[i] = signs[r.Intn(len(signs))]
		}
		version, body := r.Uint32(), make([]byte, r.Intn(300))
		r.Read(body)
		b, e := image.Make(string(name), version, body)
		if e != api.OK || !bytes.Equal(b, whole(string(name), version, body)) || !bytes.Equal(image.Body(b), body) {
			t.Fatalf("%q, %d", b, e)
		}
		h := image.Head{Version: version, Size: len(body), Name: string(name), Digest: sha256.Sum256(body)}
		checks(t, "made", b, h, api.OK)
		c := sealed(b[:64])
		for range r.Intn(3) {
			c[r.Intn(28)] = []byte{0, 1, 'a', byte(r.Intn(256))}[r.Intn(4)]
		}
		c = sealed(c)
		if h, e := image.Read(c); e == api.OK {
			again, e := image.Write(h)
			if e != api.OK || !bytes.Equal(again, c) {
				t.Fatalf("%q is read as %v, and written as %q, %d", c, h, again, e)
			}
		} else if h != (image.Head{}) {
			t.Fatalf("%v beside %d", h, e)
		}
	}
}

// P6.3: answers are new memory, spare room too; arguments stay, and what is behind their length.
func TestMemory(t *testing.T) {
	room := whole("app", 7, []byte("hello and more"))
	before := bytes.Clone(room)
	short := room[:64+5]
	h, _ := image.Read(short)
	image.Check(short)
	image.Check(room)
	body := image.Body(short)
	made, _ := image.Make("app", 7, room[64:69])
	first, _ := image.Write(h)
	second, _ := image.Write(h)
	another, _ := image.Make("app", 7, room[64:69])
	for _, b := range [][]byte{body, made, first} {
		for i := range b[:cap(b)] {
			b[:cap(b)][i] = 0xEE
		}
	}
	if !bytes.Equal(room, before) {
		t.Errorf("an argument is turned: %q", room)
	}
	if !bytes.Equal(second, before[:64]) || !bytes.Equal(another, whole("app", 7, []byte("hello"))) {
		t.Errorf("answers share memory: %q, %q", second, another)
	}
	for i := range room {
		room[i] = 0xDD
	}
	if h != (image.Head{Version: 7, Size: 14, Name: "app", Digest: sha256.Sum256([]byte("hello and more"))}) || !bytes.Equal(another, whole("app", 7, []byte("hello"))) {
		t.Errorf("an argument is kept: %v, %q", h, another)
	}
}
