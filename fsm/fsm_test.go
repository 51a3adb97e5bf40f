package fsm_test

import (
	"math"
	"slices"
	"testing"

	"outpost/fsm"
)

// Edge is a short name of what is held here.
type Edge = fsm.Edge

// diagram is the chapter's diagram, of Fail an edge for each result, in the order in which they are to be answered.
func diagram() []Edge {
	return []Edge{
		{1, 0, 1, 0},
		{2, 1, 2, 0},
		{3, 1, 0, 2}, {3, 1, 0, 3}, {3, 1, 0, 4}, {3, 1, 0, 5}, {3, 1, 0, 6}, {3, 1, 0, 7}, {3, 1, 0, 8}, {3, 1, 0, 9},
		{4, 0, 0, 0}, {4, 1, 0, 0}, {4, 2, 0, 0},
		{5, 2, 3, 0},
		{6, 3, 0, 1},
		{7, 3, 0, 8},
		{8, 2, 0, 5},
	}
}

// numbers are all that are a state, an event or a result, some about them, and some far off.
func numbers() []int {
	far := []int{255, 256, 257, 258, 1 << 16, 1<<16 + 1, 1 << 32, 1<<32 + 1, 1<<32 + 3, math.MaxInt32, math.MinInt32, math.MaxInt, math.MaxInt - 1, math.MinInt, math.MinInt + 1, -256, -255, -3, -2, -1}
	for n := range 14 {
		far = append(far, n)
	}
	return far
}

// P22.1: the events' numbers.
func TestEvents(t *testing.T) {
	got := []int{fsm.Begin, fsm.Done, fsm.Fail, fsm.Reset, fsm.Run, fsm.Good, fsm.Bad, fsm.Lapse}
	if !slices.Equal(got, []int{1, 2, 3, 4, 5, 6, 7, 8}) {
		t.Errorf("%v", got)
	}
}

// P22.1: the chapter's own examples.
func TestExamples(t *testing.T) {
	if e, ok := fsm.Next(2, fsm.Run, 0); e != (Edge{fsm.Run, 2, 3, 0}) || !ok {
		t.Errorf("from 2 Run: %v, %t", e, ok)
	}
	var right [][2]int
	for state := range 4 {
		for result := range 10 {
			if fsm.Right(state, result) {
				right = append(right, [2]int{state, result})
			}
		}
	}
	want := [][2]int{{0, 0}, {0, 1}, {0, 2}, {0, 3}, {0, 4}, {0, 5}, {0, 6}, {0, 7}, {0, 8}, {0, 9}, {1, 0}, {2, 0}, {3, 0}}
	if !slices.Equal(right, want) {
		t.Errorf("right are %v", right)
	}
}

// P22.1: the edges, in order; each time new memory, spare room too.
func TestEdges(t *testing.T) {
	for range 3 {
		got := fsm.Edges()
		if !slices.Equal(got, diagram()) {
			t.Fatalf("%v", got)
		}
		other := fsm.Edges()
		got = got[:cap(got)]
		for i := range got {
			got[i] = Edge{-9, -9, -9, -9}
		}
		if !slices.Equal(other, diagram()) {
			t.Fatal("two answers share memory")
		}
		if e, ok := fsm.Next(0, fsm.Begin, 0); e != (Edge{1, 0, 1, 0}) || !ok || !fsm.May(0, 0, 1, 0) || !fsm.Path(0, 0, 3, 0) {
			t.Fatal("what was answered is asked")
		}
	}
}

// P22.1, P1: the edge of each event from each state, with each result, and of none that there isn't.
func TestNext(t *testing.T) {
	found := 0
	for _, state := range numbers() {
		for _, event := range numbers() {
			for _, result := range numbers() {
				var want Edge
				wantOK := false
				for _, e := range diagram() {
					if e.From == state && e.Event == event && (event != 3 || e.Result == result) {
						want, wantOK = e, true
						found++
					}
				}
				if e, ok := fsm.Next(state, event, result); e != want || ok != wantOK {
					t.Errorf("Next of %d, %d, %d: %v, %t", state, event, result, e, ok)
				}
			}
		}
	}
	// Of all but Fail the result doesn't count.
	if found != 9*len(numbers())+8 {
		t.Errorf("%d edges were found", found)
	}
}

// P22.1: the results that are told with Fail, and those that aren't.
func TestFail(t *testing.T) {
	for _, result := range numbers() {
		e, ok := fsm.Next(1, fsm.Fail, result)
		if told := result >= 2 && result <= 9; told && (e != Edge{fsm.Fail, 1, 0, result} || !ok) || !told && (e != Edge{} || ok) {
			t.Errorf("of %d: %v, %t", result, e, ok)
		}
	}
}

// P22.1: a state in words.
func TestName(t *testing.T) {
	names := []string{"Idle", "Downloading", "Downloaded", "Updating"}
	for _, state := range numbers() {
		want := ""
		if state >= 0 && state < len(names) {
			want = names[state]
		}
		if got := fsm.Name(state); got != want {
			t.Errorf("of %d: %q", state, got)
		}
	}
}
