package watch_test

import (
	"slices"
	"testing"

	"outpost/api"
	"outpost/watch"
)

// turn turns bytes, spare room too.
func turn(b []byte) {
	b = b[:cap(b)]
	for i := range b {
		b[i] ^= 255
	}
}

// turnWatches turns all that watches have, spare room too, the last one first: what is ahead must stay.
func turnWatches(t *testing.T, ws []Watch) {
	t.Helper()
	for i := len(ws) - 1; i >= 0; i-- {
		w := ws[i]
		turn(w.Token)
		turn(w.Val.B)
		p := w.Path[:cap(w.Path)]
		for n := range p {
			p[n] = -9
		}
		for n, other := range ws[:i] {
			if !same(other, known(n, other.At, other.Seq, other.Val)) {
				t.Errorf("two lists of one answer share memory: %v", other)
			}
		}
	}
	ws = ws[:cap(ws)]
	for i := range ws {
		ws[i] = Watch{Server: -9, Token: []byte("turned"), Path: []int{-9}, Seq: -9}
	}
}

// known is the watch of a place, with what changes of it.
func known(i int, at int64, seq int, v Val) Watch {
	return Watch{Server: i, Token: []byte{'t', byte('0' + i)}, Path: []int{3, i}, Cond: Cond{PMin: 1, HasMin: true}, Val: v, At: at, Seq: seq}
}

// laid are watches, and their values, whose lists lie in the same rows, each with the others in its spare room.
func laid() (ws []Watch, vals []Val, row []byte, paths []int) {
	row = []byte("t0t1t2abcdef spare room")
	paths = []int{3, 0, 3, 1, 3, 2, 77}
	room := make([]Val, 4)
	for i := range 3 {
		w := known(i, 5, 66, Val{Kind: api.KBytes, B: row[6+i : 8+i]})
		w.Token, w.Path = row[2*i:2*i+2], paths[2*i:2*i+2]
		ws = append(ws, w)
		room[i] = Val{Kind: api.KBytes, B: row[8+i : 10+i]}
	}
	room[3] = text("spare")
	return ws, room[:3], row, paths
}

// stays holds that what laid has told is as it was.
func stays(t *testing.T, ws []Watch, vals []Val, row []byte, paths []int) {
	t.Helper()
	wsThen, valsThen, rowThen, pathsThen := laid()
	if !slices.EqualFunc(ws, wsThen, same) || !slices.EqualFunc(vals[:4], valsThen[:4], sameVal) || string(row) != string(rowThen) || !slices.Equal(paths, pathsThen) {
		t.Error("what was handed in is turned")
	}
}

// bytesOf is the value that the watch of a place has, so many values on.
func bytesOf(i, on int) Val { return bytes("abcdef"[i+on : i+on+2]) }

// P21.4: what is handed in stays, behind its length too, and may be written over; what is answered is nobody else's.
func TestMemory(t *testing.T) {
	ws, vals, row, paths := laid()
	x := watch.New()
	adds(t, x, api.OK, ws...)
	stays(t, ws, vals, row, paths)
	first := []Watch{known(0, 5, 0, bytesOf(0, 0)), known(1, 5, 0, bytesOf(1, 0)), known(2, 5, 0, bytesOf(2, 0))}
	for range 3 {
		got := x.All()
		if !slices.EqualFunc(got, first, same) {
			t.Errorf("All: %v", got)
		}
		turnWatches(t, got)
		has(t, x, first...)
	}
	due := x.Due(vals, 6)
	stays(t, ws, vals, row, paths)
	second := []Watch{known(0, 6, 1, bytesOf(0, 2)), known(1, 6, 1, bytesOf(1, 2)), known(2, 6, 1, bytesOf(2, 2))}
	if !slices.EqualFunc(due, second, same) {
		t.Errorf("Due: %v", due)
	}
	clear(row)
	clear(paths)
	clear(vals)
	clear(ws)
	if !slices.EqualFunc(due, second, same) {
		t.Error("what was handed in is kept in an answer")
	}
	has(t, x, second...)
	turnWatches(t, due)
	has(t, x, second...)
}

// P21.4: of what is told with the value that was told last the same holds.
func TestMemoryOfWhatStays(t *testing.T) {
	x := watch.New()
	for i := range 3 {
		w := known(i, 5, 0, bytesOf(i, 0))
		w.Cond.PMax, w.Cond.HasMax = 1, true
		adds(t, x, api.OK, w)
	}
	due := x.Due(nil, 9)
	before := x.All()
	for _, w := range due {
		turn(w.Val.B)
		turn(w.Token)
		clear(w.Path)
	}
	if len(due) != 3 || !slices.EqualFunc(x.All(), before, same) || !sameVal(before[2].Val, bytesOf(2, 0)) {
		t.Error("Due shares memory")
	}
}

// P21.4: tokens and paths that are asked for stay, and aren't kept.
func TestMemoryOfWhatIsAsked(t *testing.T) {
	x := watch.New()
	adds(t, x, api.OK, known(0, 0, 0, num(1)), known(1, 0, 0, num(1)))
	token, p := []byte("t1 spare"), []int{3, 0, 1, 77}
	x.Turn(1, token[:2], gt(1))
	x.Turn(1, token[:3], gt(1))
	x.Drop(1, token[:2])
	x.DropPath(p[:3])
	x.DropPath(p[:2])
	if x.Len() != 0 || string(token) != "t1 spare" || !slices.Equal(p, []int{3, 0, 1, 77}) {
		t.Error("what was handed in is turned")
	}
}

// P21.4: one in the place of another takes nothing with it, and what is answered ahead stays as it was.
func TestMemoryOfPlaces(t *testing.T) {
	x := watch.New()
	for i := range 3 {
		adds(t, x, api.OK, known(i, 0, 0, bytesOf(i, 0)))
	}
	before := x.All()
	due := x.Due([]Val{bytes("xy"), bytes("xy"), bytes("xy")}, 1)
	w := known(1, 7, 0, bytesOf(1, 1))
	adds(t, x, api.OK, w)
	turn(w.Token)
	turn(w.Val.B)
	if !x.Drop(0, []byte("t0")) || x.DropServer(2) != 1 {
		t.Error("Drop")
	}
	has(t, x, known(1, 7, 0, bytesOf(1, 1)))
	for i := range 3 {
		if !same(before[i], known(i, 0, 0, bytesOf(i, 0))) || !same(due[i], known(i, 1, 1, bytes("xy"))) {
			t.Errorf("what was answered is turned: %v, %v", before[i], due[i])
		}
	}
	// Two tables have nothing in common.
	if y := watch.New(); y.Len() != 0 || y.Add(known(5, 0, 0, num(1))) != api.OK || x.Len() != 1 {
		t.Error("two tables")
	}
}
