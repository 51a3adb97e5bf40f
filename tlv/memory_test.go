package tlv_test

import (
	"bytes"
	"testing"

	"outpost/api"
	"outpost/tlv"
)

// turn turns all that a list has, spare room too: its values' bytes, its kids, and then each one itself.
func turn(ts []Tlv) {
	for i := range ts[:cap(ts)] {
		x := &ts[:cap(ts)][i]
		turnBytes(x.Val)
		turn(x.Kids)
		*x = Tlv{Kind: -9, ID: -9, Val: []byte("turned"), Kids: []Tlv{{}}}
	}
}

// turnBytes turns all bytes of a list, spare room too.
func turnBytes(b []byte) {
	for i := range b[:cap(b)] {
		b[:cap(b)][i] ^= 255
	}
}

// given is a right list whose values lie in one row of bytes, and its kids in one row of their kind, each with the others in its spare room; the first two of kind 0 and of kind 2 have the same kids.
func given() (ts, room []Tlv, row []byte) {
	row = []byte("0123456789abcdefghijklmnopqrstuvwxyz")
	ones := []Tlv{{Kind: 1, ID: 0, Val: row[:2]}, {Kind: 1, ID: 1, Val: row[1:12]}, {Kind: 1, ID: 2, Val: row[4:4]}, {Kind: 1, ID: 3}}
	inner := []Tlv{{Kind: 2, ID: 5, Kids: ones[:2]}, {Kind: 2, ID: 6, Kids: ones[:2]}, {Kind: 3, ID: 7, Val: row[:2]}, {Kind: 2, ID: 8, Kids: ones[2:3]}}
	room = []Tlv{{Kind: 0, ID: 1, Kids: inner[:3]}, {Kind: 0, ID: 1, Kids: inner[:3]}, {Kind: 2, ID: 300, Kids: ones[1:3]}, {Kind: 3, ID: 4, Val: row[20:30]}, {Kind: 3, ID: 9, Val: row[3:3]}, {Kind: 0, ID: 2, Kids: inner[:0]}, {Kind: 3, ID: 77, Val: row[:7]}}
	return room[:6], room, row
}

// deep is a list of new memory, made without the package.
func deep(ts []Tlv) []Tlv {
	var own []Tlv
	for _, x := range ts {
		own = append(own, Tlv{Kind: x.Kind, ID: x.ID, Val: bytes.Clone(x.Val), Kids: deep(x.Kids)})
	}
	return own
}

// stays holds that what was handed in is as it was.
func stays(t *testing.T, what string, room []Tlv, row []byte) {
	t.Helper()
	_, fresh, text := given()
	if !same(room, fresh) || !bytes.Equal(row, text) {
		t.Errorf("%s: what was handed in is turned", what)
	}
}

// P15.3: what is handed in stays, behind its length too.
func TestArgumentsStay(t *testing.T) {
	ts, room, row := given()
	other, otherRoom, otherRow := given()
	b, e := tlv.Write(ts)
	if e != api.OK || !tlv.Right(ts) || !tlv.Same(ts, other) {
		t.Errorf("Write: %d", e)
	}
	stays(t, "Right, Write, Same", room, row)
	stays(t, "Same", otherRoom, otherRow)
	for _, x := range ts {
		got, ok := tlv.Find(ts, x.Kind, x.ID)
		if !ok || got.Kind != x.Kind {
			t.Errorf("Find of %d, %d", x.Kind, x.ID)
		}
		turn([]Tlv{got})
		stays(t, "Find", room, row)
	}
	read := append(bytes.Clone(b), "spare room"...)
	text := bytes.Clone(read)
	for n := range len(b) + 1 {
		got, _ := tlv.Read(read[:n])
		turn(got)
		if !bytes.Equal(read, text) {
			t.Fatalf("Read of %d bytes turns them", n)
		}
	}
	turnBytes(b)
	stays(t, "Write", room, row)
}

// P15.3: what is answered hangs on nothing that was handed in, be that written over.
func TestArgumentsAreNotKept(t *testing.T) {
	ts, room, row := given()
	want := deep(ts)
	b, _ := tlv.Write(ts)
	var found []Tlv
	for _, x := range ts {
		got, _ := tlv.Find(ts, x.Kind, x.ID)
		found = append(found, got)
	}
	clear(row)
	turn(room)
	if !same(found, append([]Tlv{want[0], want[0]}, want[2:]...)) {
		t.Errorf("Find keeps an argument: %v", found)
	}
	got, e := tlv.Read(b)
	clear(b)
	if !same(got, want) || e != api.OK {
		t.Errorf("Read keeps its bytes: %v, %d", got, e)
	}
}

// P15.3: no two lists of an answer share memory, nor do those of two answers, spare room too.
func TestAnswersAreNewMemory(t *testing.T) {
	ts, _, _ := given()
	b, _ := tlv.Write(ts)
	for what, call := range map[string]func() []Tlv{
		"Read": func() []Tlv {
			got, _ := tlv.Read(b)
			return got
		},
		"Find": func() []Tlv {
			got, _ := tlv.Find(ts, 0, 1)
			return []Tlv{got}
		},
	} {
		want := deep(call())
		for i := range want {
			got, again := call(), call()
			turn(got[i : i+1 : i+1])
			if !same(again, want) || !same(got[:i], want[:i]) || !same(got[i+1:], want[i+1:]) {
				t.Errorf("%s: the lists of %d are others' too", what, i)
			}
			for k := range want[i].Kids {
				got := call()
				turn(got[i].Kids[k : k+1 : k+1])
				if !same(got[i].Kids[:k], want[i].Kids[:k]) || !same(got[i].Kids[k+1:], want[i].Kids[k+1:]) {
					t.Errorf("%s: the lists of %d's kid %d are others' too", what, i, k)
				}
			}
		}
		got, again := call(), call()
		turn(got)
		if !same(again, want) || !same(call(), want) {
			t.Errorf("%s: two answers share memory", what)
		}
	}
	again, _ := tlv.Write(ts)
	turnBytes(b)
	if got, e := tlv.Read(again); !same(got, ts) || e != api.OK {
		t.Errorf("Write: two answers share memory")
	}
}
