package link_test

import (
	"slices"
	"testing"
	"unsafe"

	"outpost/api"
	"outpost/link"
)

// given are links whose paths and attributes lie in one row each, each with the others in its spare room, and with a link in their own.
func given() (ls, room []Link, numbers []int, pairs []Pair) {
	numbers = []int{5, 0, 3, 65535}
	pairs = []Pair{pair("ver", "1.0"), bare("obs"), pair("title", "a, b"), pair("x", ""), bare("spare")}
	room = []Link{to(numbers[:2], pairs[:1]...), to(numbers[:3], pairs[1:4]...), to(numbers[1:1]), to(numbers[:2], pairs[:1]...), to(numbers[3:], pairs[2:2]...), to(numbers[:1], pairs[:2]...)}
	return room[:5], room, numbers, pairs
}

const text = `</5/0>;ver=1.0,</5/0/3>;obs;title="a, b";x="",</>,</5/0>;ver=1.0,</65535>`

// turn turns all that links have, spare room too, and then each one itself.
func turn(ls []Link) {
	for i := range ls[:cap(ls)] {
		l := &ls[:cap(ls)][i]
		for k := range l.Path[:cap(l.Path)] {
			l.Path[:cap(l.Path)][k] = -9
		}
		for k := range l.Attrs[:cap(l.Attrs)] {
			l.Attrs[:cap(l.Attrs)][k] = bare("turned")
		}
		*l = to([]int{-9})
	}
}

// P17.3: links stay, behind their count and that of their lists too, and their text hangs on nothing that is written over.
func TestArgumentsStay(t *testing.T) {
	ls, room, numbers, pairs := given()
	other, fresh, freshNumbers, freshPairs := given()
	s, e := link.Write(ls)
	if s != text || e != api.OK || !link.Right(ls) || !link.Same(ls, other) {
		t.Errorf("%q, %d", s, e)
	}
	if !same(room, fresh) || !slices.Equal(numbers, freshNumbers) || !slices.Equal(pairs, freshPairs) {
		t.Error("what was handed in is turned")
	}
	turn(room)
	if s != text {
		t.Errorf("an argument is kept: %q", s)
	}
}

// P17.3: what is read is new memory: no two of its lists share any, nor do those of two answers, spare room too.
func TestAnswersAreNewMemory(t *testing.T) {
	want, _, _, _ := given()
	for i := range want {
		got, _ := link.Read(text)
		again, _ := link.Read(text)
		turn(got[i : i+1 : i+1])
		if !same(again, want) || !same(got[:i], want[:i]) || !same(got[i+1:], want[i+1:]) {
			t.Errorf("link %d shares memory", i)
		}
	}
	got, _ := link.Read(text)
	again, _ := link.Read(text)
	turn(got)
	if !same(again, want) {
		t.Error("two answers share memory")
	}
}

// within tells whether a text lies in the memory of another.
func within(part, whole string) bool {
	if part == "" {
		return false
	}
	at, from := uintptr(unsafe.Pointer(unsafe.StringData(part))), uintptr(unsafe.Pointer(unsafe.StringData(whole)))
	return at >= from && at < from+uintptr(len(whole))
}

// P17.3: links have no piece of the text that they are read from.
func TestTextsAreNotKept(t *testing.T) {
	ls, e := link.Read(text)
	if e != api.OK {
		t.Fatal(e)
	}
	for _, l := range ls {
		for _, a := range l.Attrs {
			if within(a.Name, text) || within(a.Val, text) {
				t.Errorf("%v lies in the text", a)
			}
		}
	}
}
