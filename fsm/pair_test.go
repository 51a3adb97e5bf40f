package fsm_test

import (
	"math"
	"testing"

	"outpost/fsm"
)

// pair is a state and a result.
type pair struct{ state, result int }

// pairs are all that are spoken of: those that can't be come to, too.
func pairs() []pair {
	var all []pair
	for state := range 4 {
		for result := range 10 {
			all = append(all, pair{state, result})
		}
	}
	return all
}

// others are pairs that there aren't: a state, a result or both out of their ranges.
func others() []pair {
	var all []pair
	for _, state := range numbers() {
		for _, result := range numbers() {
			if state < 0 || state > 3 || result < 0 || result > 9 {
				all = append(all, pair{state, result})
			}
		}
	}
	return all
}

// after are the pairs that may follow a pair at once.
func after(p pair) map[pair]int {
	next := map[pair]int{p: 0}
	for _, e := range diagram() {
		if e.From == p.state {
			next[pair{e.To, e.Result}] = 0
		}
	}
	return next
}

// walked are the pairs that may follow a pair at last, found by walking on from each that is met.
func walked(from pair) map[pair]int {
	met := map[pair]int{from: 0}
	for todo := []pair{from}; len(todo) > 0; todo = todo[1:] {
		for p := range after(todo[0]) {
			if _, ok := met[p]; !ok {
				met[p] = 0
				todo = append(todo, p)
			}
		}
	}
	return met
}

// P22.1: May at pairs that are told one by one.
func TestMay(t *testing.T) {
	for i, c := range []struct {
		from, to pair
		want     bool
	}{
		{pair{0, 0}, pair{0, 0}, true}, {pair{0, 0}, pair{1, 0}, true}, {pair{0, 0}, pair{2, 0}, false}, {pair{0, 0}, pair{3, 0}, false}, {pair{0, 0}, pair{0, 1}, false}, {pair{0, 0}, pair{1, 1}, false},
		{pair{0, 7}, pair{0, 7}, true}, {pair{0, 7}, pair{0, 0}, true}, {pair{0, 7}, pair{1, 0}, true}, {pair{0, 7}, pair{1, 7}, false}, {pair{0, 7}, pair{0, 6}, false},
		{pair{1, 0}, pair{1, 0}, true}, {pair{1, 0}, pair{2, 0}, true}, {pair{1, 0}, pair{0, 0}, true}, {pair{1, 0}, pair{0, 1}, false}, {pair{1, 0}, pair{0, 2}, true}, {pair{1, 0}, pair{0, 9}, true}, {pair{1, 0}, pair{3, 0}, false},
		{pair{2, 0}, pair{3, 0}, true}, {pair{2, 0}, pair{0, 0}, true}, {pair{2, 0}, pair{0, 5}, true}, {pair{2, 0}, pair{0, 4}, false}, {pair{2, 0}, pair{0, 6}, false}, {pair{2, 0}, pair{1, 0}, false},
		{pair{3, 0}, pair{0, 1}, true}, {pair{3, 0}, pair{0, 8}, true}, {pair{3, 0}, pair{0, 0}, false}, {pair{3, 0}, pair{0, 2}, false}, {pair{3, 0}, pair{2, 0}, false},
		// Pairs that aren't right are pairs all the same.
		{pair{3, 7}, pair{3, 7}, true}, {pair{3, 7}, pair{0, 1}, true}, {pair{1, 9}, pair{2, 0}, true}, {pair{2, 3}, pair{3, 0}, true}, {pair{3, 7}, pair{3, 0}, false},
		// No pairs.
		{pair{0, 10}, pair{0, 10}, false}, {pair{0, 10}, pair{0, 0}, false}, {pair{0, 10}, pair{1, 0}, false}, {pair{1, -1}, pair{2, 0}, false}, {pair{4, 0}, pair{4, 0}, false}, {pair{-1, 0}, pair{-1, 0}, false}, {pair{0, 0}, pair{4, 0}, false}, {pair{1, 0}, pair{0, 10}, false},
	} {
		if fsm.May(c.from.state, c.from.result, c.to.state, c.to.result) != c.want {
			t.Errorf("case %d: %v, %v: %t", i, c.from, c.to, !c.want)
		}
	}
}

// P22.1: Path at pairs that are told one by one.
func TestPath(t *testing.T) {
	for i, c := range []struct {
		from, to pair
		want     bool
	}{
		{pair{0, 0}, pair{0, 0}, true}, {pair{0, 0}, pair{3, 0}, true}, {pair{0, 0}, pair{0, 1}, true}, {pair{0, 0}, pair{0, 8}, true}, {pair{0, 0}, pair{1, 1}, false}, {pair{0, 0}, pair{3, 1}, false},
		{pair{3, 0}, pair{3, 0}, true}, {pair{3, 0}, pair{2, 0}, true}, {pair{3, 0}, pair{0, 5}, true}, {pair{0, 9}, pair{0, 2}, true},
		// By none; and from a pair that isn't right, never to one.
		{pair{3, 7}, pair{3, 7}, true}, {pair{3, 7}, pair{3, 0}, true}, {pair{3, 7}, pair{0, 0}, true}, {pair{3, 7}, pair{3, 6}, false}, {pair{3, 6}, pair{2, 6}, false},
		// No pairs.
		{pair{4, 0}, pair{4, 0}, false}, {pair{4, 0}, pair{0, 0}, false}, {pair{-1, 0}, pair{-1, 0}, false}, {pair{0, 10}, pair{0, 10}, false}, {pair{0, 10}, pair{0, 0}, false}, {pair{0, -1}, pair{1, 0}, false}, {pair{0, 0}, pair{4, 0}, false}, {pair{0, 0}, pair{0, 10}, false},
		{pair{math.MinInt, math.MinInt}, pair{math.MinInt, math.MinInt}, false}, {pair{math.MaxInt, 0}, pair{0, 0}, false}, {pair{0, math.MaxInt}, pair{0, 0}, false}, {pair{0, 0}, pair{math.MaxInt, math.MaxInt}, false},
	} {
		if fsm.Path(c.from.state, c.from.result, c.to.state, c.to.result) != c.want {
			t.Errorf("case %d: %v, %v: %t", i, c.from, c.to, !c.want)
		}
	}
}

// P22.1: all pairs, from all pairs.
func TestPairs(t *testing.T) {
	for _, from := range pairs() {
		next, met := after(from), walked(from)
		for _, to := range pairs() {
			_, want := next[to]
			if fsm.May(from.state, from.result, to.state, to.result) != want {
				t.Errorf("May of %v, %v: %t", from, to, !want)
			}
			_, want = met[to]
			if fsm.Path(from.state, from.result, to.state, to.result) != want {
				t.Errorf("Path of %v, %v: %t", from, to, !want)
			}
		}
		_, want := walked(pair{0, 0})[from]
		if fsm.Right(from.state, from.result) != want {
			t.Errorf("Right of %v: %t", from, !want)
		}
	}
}

// P22.1, P1: where one isn't a pair, or neither is, all is denied, itself too.
func TestNoPairs(t *testing.T) {
	for _, no := range others() {
		if fsm.Right(no.state, no.result) || fsm.May(no.state, no.result, no.state, no.result) || fsm.Path(no.state, no.result, no.state, no.result) {
			t.Errorf("%v is a pair", no)
		}
		for _, p := range pairs() {
			if fsm.May(no.state, no.result, p.state, p.result) || fsm.May(p.state, p.result, no.state, no.result) {
				t.Errorf("May of %v and %v", no, p)
			}
			if fsm.Path(no.state, no.result, p.state, p.result) || fsm.Path(p.state, p.result, no.state, no.result) {
				t.Errorf("Path of %v and %v", no, p)
			}
		}
	}
}

// P22.2: what may follow a pair that is right is right, and each event that there is leads to what may follow.
func TestWhatIsRightStaysRight(t *testing.T) {
	right := 0
	for _, from := range pairs() {
		if !fsm.Right(from.state, from.result) {
			continue
		}
		right++
		for _, to := range append(pairs(), others()...) {
			if fsm.May(from.state, from.result, to.state, to.result) && !fsm.Right(to.state, to.result) {
				t.Errorf("%v leads to %v", from, to)
			}
		}
		for event := range 10 {
			for result := range 12 {
				e, ok := fsm.Next(from.state, event, result)
				if ok && (!fsm.May(from.state, from.result, e.To, e.Result) || !fsm.Right(e.To, e.Result)) {
					t.Errorf("from %v event %d leads to %v", from, event, e)
				}
			}
		}
	}
	if right != 13 {
		t.Errorf("%d pairs are right", right)
	}
}
