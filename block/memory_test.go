package block_test

import (
	"bytes"
	"testing"

	"outpost/api"
	"outpost/block"
)

// apart holds that two lists share no memory, spare room too.
func apart(t *testing.T, what string, a, b []byte) {
	t.Helper()
	a, b = a[:cap(a)], b[:cap(b)]
	before := bytes.Clone(b)
	for i := range a {
		a[i] ^= 255
	}
	if !bytes.Equal(b, before) {
		t.Errorf("%s: shares memory", what)
	}
	for i := range a {
		a[i] ^= 255
	}
}

// P10.3: what is written is new memory at each call; what is read stays, behind its length too.
func TestMemoryOfValues(t *testing.T) {
	for _, b := range []Block{{0, false, 16}, {3, true, 64}, {1<<20 - 1, true, 1024}} {
		one, _ := block.Write(b)
		two, _ := block.Write(b)
		apart(t, "Write", one, two)
	}
	row := []byte("\x3a\x3a\x3a\x3a\x3a\x3a")
	for n := range len(row) + 1 {
		block.Read(row[:n])
		if string(row) != "\x3a\x3a\x3a\x3a\x3a\x3a" {
			t.Fatalf("Read of %d bytes turns them", n)
		}
	}
}

// P10.3: what is cut is new memory, spare room too; the body stays, behind its length too.
func TestMemoryOfCut(t *testing.T) {
	row := text(200)
	for _, n := range []int{0, 1, 16, 63, 64, 65, 100, 128} {
		for num := range 5 {
			data, _, _ := block.Cut(row[:n], num, 32)
			apart(t, "Cut", data, row)
			again, _, _ := block.Cut(row[:n], num, 32)
			apart(t, "Cut again", data, again)
			if !bytes.Equal(row, text(200)) {
				t.Fatalf("Cut of %d bytes turns them", n)
			}
		}
	}
	data, _, _ := block.Cut(row, 1, 64)
	clear(row)
	if !bytes.Equal(data, text(200)[64:128]) {
		t.Error("the body is kept")
	}
}

// P10.3: data may be written over behind a Put, and is not turned by it; what Bytes answers is nobody else's.
func TestMemoryOfJoin(t *testing.T) {
	j := block.NewJoin(1000)
	body := text(300)
	var answers [][]byte
	for num := range 3 {
		row := append(bytes.Clone(body[num*100:]), "spare room"...)
		data := row[:16]
		for k := range 4 { // blocks of 16 bytes, whose data have others in their spare room
			copy(data, body[(num*4+k)*16:])
			if _, e := j.Put(Block{num*4 + k, true, 16}, data); e != api.OK {
				t.Fatalf("block %d: %d", num*4+k, e)
			}
			if !bytes.Equal(data, body[(num*4+k)*16:][:16]) || !bytes.Equal(row[16:], append(bytes.Clone(body[num*100+16:]), "spare room"...)) {
				t.Fatalf("block %d: its data is turned", num*4+k)
			}
			apart(t, "data", row, j.Bytes())
			answers = append(answers, j.Bytes())
			clear(data)
			if got := j.Bytes(); !bytes.Equal(got, body[:j.Got()]) {
				t.Fatalf("block %d: its data is kept", num*4+k)
			}
		}
	}
	for i, a := range answers {
		for _, b := range answers[:i] {
			apart(t, "Bytes", a, b)
		}
		apart(t, "Bytes and what is kept", a, j.Bytes())
		clear(a[:cap(a)])
	}
	if !bytes.Equal(j.Bytes(), body[:j.Got()]) || j.Got() != 192 {
		t.Error("what Bytes answered is kept")
	}
	ahead := j.Bytes()
	j.Put(Block{0, true, 16}, make([]byte, 16))
	j.Put(Block{1, false, 16}, make([]byte, 16))
	if !bytes.Equal(ahead, body[:192]) {
		t.Error("what Bytes answered is turned by a Put")
	}
}
