package reg_test

import (
	"math"
	"math/rand"
	"slices"
	"testing"

	"outpost/reg"
)

// model is a life that is written otherwise: the times and places of all states are worked out from how it was come to.
type model struct {
	state       int
	known       bool
	lifetime    int64
	place       []string
	since, told int64 // when the state was entered, the latest time
}

// waits is for how long a state waits, below 0 of one that waits for no time.
func (m *model) waits() int64 {
	switch m.state {
	case waiting:
		return 1000
	case resting:
		return 60
	case joined:
		stay := m.lifetime - m.lifetime/10
		if m.lifetime < 10 {
			stay = m.lifetime - 1
		}
		if stay == 0 {
			stay = 1
		}
		return stay
	}
	return -1
}

func (m *model) next() int64 {
	if m.waits() < 0 {
		return -1
	}
	return min(m.since+m.waits(), 1<<40)
}

// to enters a state, and is what is wanted there.
func (m *model) to(state int) int {
	m.state, m.since = state, m.told
	if !slices.Contains([]int{joined, renewing, leaving}, state) {
		m.place = nil
	}
	return map[int]int{asking: ask, joining: join, renewing: renew, leaving: leave}[state]
}

func (m *model) first() int {
	if m.known {
		return m.to(joining)
	}
	return m.to(asking)
}

func (m *model) tell(now int64) {
	if now > 1<<40 {
		now = 1 << 40
	}
	if now > m.told {
		m.told = now
	}
}

func within(lifetime int64) int64 {
	if lifetime < 1 {
		return 1
	}
	if lifetime > 86400 {
		return 86400
	}
	return lifetime
}

func (m *model) answer(code int, place []string) int {
	ways := map[[2]int]int{{asking, 68}: waiting, {renewing, 68}: joined, {renewing, 132}: joining}
	if n := len(place); n >= 1 && n <= 4 {
		ways[[2]int{joining, 65}] = joined
	}
	if m.state == leaving {
		return m.to(off)
	}
	if m.state != asking && m.state != joining && m.state != renewing {
		return none
	}
	then, ok := ways[[2]int{m.state, code}]
	if !ok {
		then = resting
	}
	if m.state == joining {
		m.place = place
	}
	return m.to(then)
}

func (m *model) pass() int {
	if at := m.next(); at < 0 || at > m.told {
		return none
	}
	switch m.state {
	case joined:
		return m.to(renewing)
	case waiting:
		return m.to(resting)
	}
	return m.first()
}

// step does something to a life and its model, and tells what both want.
func step(r *rand.Rand, l *reg.Life, m *model, now int64) (what string, got, want int) {
	m.tell(now)
	known := r.Intn(2) == 0
	lifetime := []int64{-3, 0, 1, 2, 9, 10, 11, 100, 1000, 86400, 86401, math.MaxInt64}[r.Intn(12)]
	switch r.Intn(14) {
	case 0:
		m.known, m.lifetime = known, within(lifetime)
		return "Start", l.Start(known, lifetime, now), m.first()
	case 1, 2, 3, 4, 5:
		code := []int{65, 65, 68, 68, 132, 128}[r.Intn(6)]
		place := []string{"rd", "", "5", "x", "y"}[:max(0, r.Intn(8)-2)]
		return "Answer", l.Answer(code, place, now), m.answer(code, place)
	case 6:
		got = l.Lost(now)
		if m.state == leaving {
			return "Lost", got, m.to(off)
		}
		if m.state == asking || m.state == joining || m.state == renewing {
			return "Lost", got, m.to(resting)
		}
		return "Lost", got, none
	case 7, 8:
		got = l.Finish(known, now)
		if m.state != waiting {
			return "Finish", got, none
		}
		if m.known = known; !known {
			return "Finish", got, m.to(resting)
		}
		return "Finish", got, m.first()
	case 9:
		got = l.Renew(lifetime, now)
		if m.state != joined {
			return "Renew", got, none
		}
		m.lifetime = within(lifetime)
		return "Renew", got, m.to(renewing)
	case 10:
		got = l.Leave(now)
		if m.state != joined {
			return "Leave", got, none
		}
		return "Leave", got, m.to(leaving)
	}
	return "Pass", l.Pass(now), m.pass()
}

// P24.1, P24.3, P2: whatever calls come, in whatever order.
func TestAgainstAModel(t *testing.T) {
	r := rand.New(rand.NewSource(24))
	seen := map[[2]int]int{} // how often it went from a state to another
	for n := range 3000 {
		l, m := reg.New(), &model{}
		now := int64(r.Intn(1000))
		if n%4 == 0 {
			now = 1<<40 - int64(r.Intn(3000))
		}
		for range 80 {
			now += int64(r.Intn(70))
			if r.Intn(15) == 0 {
				now += 1100
			}
			at := now
			if r.Intn(10) == 0 {
				at -= int64(r.Intn(300))
			}
			if r.Intn(40) == 0 {
				at = math.MinInt64
			}
			before := m.state
			what, got, want := step(r, l, m, at)
			wants(t, what, got, want)
			stands(t, what, l, m.state, m.next(), m.place...)
			if has := l.State() >= joined && l.State() <= leaving; has != (len(l.Place()) > 0) {
				t.Errorf("state %d: at place %q", l.State(), l.Place())
			}
			if t.Failed() {
				t.FailNow()
			}
			seen[[2]int{before, m.state}]++
		}
	}
	for _, way := range [][2]int{{off, asking}, {off, joining}, {asking, waiting}, {asking, resting}, {waiting, resting}, {waiting, joining}, {joining, joined}, {joining, resting}, {joined, renewing}, {joined, leaving}, {renewing, joined}, {renewing, joining}, {renewing, resting}, {leaving, off}, {resting, asking}, {resting, joining}} {
		if seen[way] < 100 {
			t.Errorf("from %d to %d it went %d times", way[0], way[1], seen[way])
		}
	}
}
