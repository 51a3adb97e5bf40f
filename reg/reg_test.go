package reg_test

import (
	"math"
	"slices"
	"testing"

	"outpost/api"
	"outpost/reg"
)

// Short names of the states and of what is wanted.
const (
	off, asking, waiting, joining, joined, renewing, leaving, resting = 0, 1, 2, 3, 4, 5, 6, 7

	none, ask, join, renew, leave = 0, 1, 2, 3, 4
)

// in is a life that is in a state since 0 ticks, with a lifetime of 100, and the place "rd", "a" where it has one.
func in(t *testing.T, state int) *reg.Life {
	t.Helper()
	l := reg.New()
	switch state {
	case asking, waiting:
		wants(t, "Start", l.Start(false, 100, 0), ask)
		if state == waiting {
			wants(t, "Answer", l.Answer(68, nil, 0), none)
		}
	case joining, joined, renewing, leaving, resting:
		wants(t, "Start", l.Start(true, 100, 0), join)
		if state == resting {
			wants(t, "Lost", l.Lost(0), none)
		} else if state != joining {
			wants(t, "Answer", l.Answer(65, []string{"rd", "a"}, 0), none)
		}
		if state == renewing {
			wants(t, "Renew", l.Renew(100, 0), renew)
		}
		if state == leaving {
			wants(t, "Leave", l.Leave(0), leave)
		}
	}
	if l.State() != state {
		t.Fatalf("state %d: it is in %d", state, l.State())
	}
	return l
}

func wants(t *testing.T, what string, got, want int) {
	t.Helper()
	if got != want {
		t.Errorf("%s: %d is wanted, not %d", what, got, want)
	}
}

// stands holds all that a life tells: of at below 0 that nothing is to be done at a time.
func stands(t *testing.T, what string, l *reg.Life, state int, at int64, place ...string) {
	t.Helper()
	if l.State() != state {
		t.Errorf("%s: state %d, want %d", what, l.State(), state)
	}
	wantAt, wantOK := max(at, 0), at >= 0
	if got, ok := l.Next(); got != wantAt || ok != wantOK {
		t.Errorf("%s: next at %d, %t, want %d, %t", what, got, ok, wantAt, wantOK)
	}
	if got := l.Place(); !slices.Equal(got, place) {
		t.Errorf("%s: at place %q, want %q", what, got, place)
	}
}

// P24.1: the numbers of the states and of what is wanted.
func TestNumbers(t *testing.T) {
	if got := []int{reg.Off, reg.Asking, reg.Waiting, reg.Joining, reg.Joined, reg.Renewing, reg.Leaving, reg.Resting}; !slices.Equal(got, []int{0, 1, 2, 3, 4, 5, 6, 7}) {
		t.Errorf("states: %v", got)
	}
	if got := []int{reg.None, reg.Ask, reg.Join, reg.Renew, reg.Leave}; !slices.Equal(got, []int{0, 1, 2, 3, 4}) {
		t.Errorf("wants: %v", got)
	}
}

// P24.1: the chapter's own examples.
func TestExamples(t *testing.T) {
	l := reg.New()
	stands(t, "New", l, off, -1)
	wants(t, "Start", l.Start(true, 100, 0), join)
	stands(t, "Start", l, joining, -1)
	wants(t, "Answer", l.Answer(api.Created, []string{"rd", "a"}, 5), none)
	stands(t, "Answer", l, joined, 95, "rd", "a")
	wants(t, "Pass", l.Pass(94), none)
	stands(t, "Pass", l, joined, 95, "rd", "a")
	wants(t, "Pass", l.Pass(95), renew)
	stands(t, "Pass", l, renewing, -1, "rd", "a")
}

// call is something that is told a life, and the state and the want that it leads to from each state.
type call struct {
	what   string
	do     func(l *reg.Life) int
	states [8]int
	wants  [8]int
}

// at is when the calls come.
const at = 5

// answer is a call that tells an answer.
func answer(what string, code int, place []string, states, wants [8]int) call {
	return call{what, func(l *reg.Life) int { return l.Answer(code, place, at) }, states, wants}
}

func calls() []call {
	stay := [8]int{off, asking, waiting, joining, joined, renewing, leaving, resting}
	no := [8]int{}
	refused := [8]int{off, resting, waiting, resting, joined, resting, off, resting}
	// What is created is an answer to a registration alone.
	placed := [8]int{off, resting, waiting, joined, joined, resting, off, resting}
	all := []call{
		{"Start, known", func(l *reg.Life) int { return l.Start(true, 100, at) }, [8]int{joining, joining, joining, joining, joining, joining, joining, joining}, [8]int{join, join, join, join, join, join, join, join}},
		{"Start, unknown", func(l *reg.Life) int { return l.Start(false, 100, at) }, [8]int{asking, asking, asking, asking, asking, asking, asking, asking}, [8]int{ask, ask, ask, ask, ask, ask, ask, ask}},
		{"Lost", func(l *reg.Life) int { return l.Lost(at) }, refused, no},
		{"Finish, known", func(l *reg.Life) int { return l.Finish(true, at) }, [8]int{off, asking, joining, joining, joined, renewing, leaving, resting}, [8]int{waiting: join}},
		{"Finish, unknown", func(l *reg.Life) int { return l.Finish(false, at) }, [8]int{off, asking, resting, joining, joined, renewing, leaving, resting}, no},
		{"Pass", func(l *reg.Life) int { return l.Pass(at) }, stay, no},
		{"Renew", func(l *reg.Life) int { return l.Renew(100, at) }, [8]int{off, asking, waiting, joining, renewing, renewing, leaving, resting}, [8]int{joined: renew}},
		{"Leave", func(l *reg.Life) int { return l.Leave(at) }, [8]int{off, asking, waiting, joining, leaving, renewing, leaving, resting}, [8]int{joined: leave}},
		answer("Changed", 68, nil, [8]int{off, waiting, waiting, resting, joined, joined, off, resting}, no),
		answer("Changed, with a place", 68, []string{"x"}, [8]int{off, waiting, waiting, resting, joined, joined, off, resting}, no),
		answer("Created, 1 text", 65, []string{""}, placed, no),
		answer("Created, 4 texts", 65, []string{"a", "b", "c", "d"}, placed, no),
		answer("Created, 5 texts", 65, []string{"a", "b", "c", "d", "e"}, refused, no),
		answer("Created, nil", 65, nil, refused, no),
		answer("Created, none", 65, []string{}, refused, no),
		answer("NotFound", 132, []string{"x"}, [8]int{off, resting, waiting, resting, joined, joining, off, resting}, [8]int{renewing: join}),
	}
	for _, code := range []int{math.MinInt, -1, 0, 1, 2, 64, 66, 67, 69, 95, 128, 129, 131, 133, 160, 65 + 256, 68 + 256, 68 + 1<<32, math.MaxInt} {
		all = append(all, answer("code", code, []string{"x"}, refused, no))
	}
	return all
}

// P24.1, P24.3: each call in each state.
func TestAllCallsInAllStates(t *testing.T) {
	for _, c := range calls() {
		for state := range 8 {
			l := in(t, state)
			before, _ := l.Next()
			place := l.Place()
			wants(t, c.what, c.do(l), c.wants[state])
			now := c.states[state]
			when := int64(-1)
			switch {
			case now == state && (now == joined || now == waiting || now == resting):
				when = before
			case now == joined:
				when = at + 90
			case now == waiting:
				when = at + 1000
			case now == resting:
				when = at + 60
			}
			if state == joining && now == joined {
				place = map[string][]string{"Created, 1 text": {""}, "Created, 4 texts": {"a", "b", "c", "d"}}[c.what]
			} else if now != joined && now != renewing && now != leaving {
				place = nil
			}
			stands(t, c.what, l, now, when, place...)
			if t.Failed() {
				t.Fatalf("%s in state %d", c.what, state)
			}
		}
	}
}

// P24.1: what is to be done when its time has come, and no tick ahead.
func TestPass(t *testing.T) {
	for _, c := range []struct {
		state int
		at    int64
		want  int
		then  int
	}{{waiting, 1000, none, resting}, {joined, 90, renew, renewing}, {resting, 60, join, joining}} {
		for _, late := range []int64{0, 1, 7000} {
			l := in(t, c.state)
			wants(t, "early", l.Pass(c.at-1), none)
			if got, ok := l.Next(); l.State() != c.state || got != c.at || !ok {
				t.Errorf("state %d: turned too early", c.state)
			}
			wants(t, "in time", l.Pass(c.at+late), c.want)
			next := int64(-1)
			if c.then == resting {
				next = c.at + late + 60 // from now on, not from when it should have been
			}
			if c.state == joined {
				stands(t, "in time", l, c.then, next, "rd", "a")
			} else {
				stands(t, "in time", l, c.then, next)
			}
		}
	}
	for _, state := range []int{off, asking, joining, renewing, leaving} {
		l := in(t, state)
		wants(t, "no time", l.Pass(math.MaxInt64), none)
		if l.State() != state {
			t.Errorf("state %d: turned to %d", state, l.State())
		}
	}
}

// P24.1: behind a rest it is begun with what was said last of whether it is known, and with the lifetime that was told last.
func TestRestsAreOver(t *testing.T) {
	l := reg.New()
	wants(t, "Start", l.Start(false, 10, 0), ask)
	wants(t, "Lost", l.Lost(0), none)
	wants(t, "Pass", l.Pass(60), ask) // not known yet
	wants(t, "Answer", l.Answer(68, nil, 60), none)
	stands(t, "asked", l, waiting, 1060)
	wants(t, "Finish", l.Finish(false, 70), none)
	stands(t, "set up in vain", l, resting, 130)
	wants(t, "Pass", l.Pass(130), ask)
	wants(t, "Answer", l.Answer(68, nil, 130), none)
	wants(t, "Finish", l.Finish(true, 140), join)
	wants(t, "Lost", l.Lost(140), none)
	wants(t, "Pass", l.Pass(200), join) // known since it was set up
	wants(t, "Answer", l.Answer(65, []string{"a"}, 200), none)
	stands(t, "joined", l, joined, 209, "a")
	wants(t, "Renew", l.Renew(1000, 201), renew)
	wants(t, "Answer", l.Answer(128, nil, 202), none)
	stands(t, "refused", l, resting, 262)
	wants(t, "Pass", l.Pass(262), join)
	wants(t, "Answer", l.Answer(65, []string{"b"}, 262), none)
	stands(t, "joined once more", l, joined, 262+900, "b")
	wants(t, "Pass", l.Pass(262+900), renew)
	wants(t, "Answer", l.Answer(132, nil, 1200), join)
	stands(t, "not found", l, joining, -1)
	wants(t, "Answer", l.Answer(65, []string{"c"}, 1300), none)
	stands(t, "joined at last", l, joined, 1300+900, "c")
}

// P24.1: what is said in a state in which it says nothing doesn't count later on.
func TestWhatDoesNothingDoesNotCount(t *testing.T) {
	for _, state := range []int{asking, joining, renewing, resting} {
		l := in(t, state)
		wants(t, "Finish", l.Finish(state == asking, 0), none)
		wants(t, "Lost", l.Lost(0), none)
		want := join
		if state == asking {
			want = ask
		}
		wants(t, "Pass", l.Pass(60), want)
	}
	l := in(t, joined)
	wants(t, "Finish", l.Finish(false, 0), none)
	wants(t, "Renew", l.Renew(100, 0), renew)
	wants(t, "Lost", l.Lost(0), none)
	wants(t, "Pass", l.Pass(60), join)
	l = in(t, resting)
	wants(t, "Renew", l.Renew(7, 0), none)
	l.Pass(60)
	l.Answer(65, []string{"a"}, 60)
	stands(t, "the lifetime stays", l, joined, 150, "a")
}

// P24.1: for how long it is Joined.
func TestLifetimes(t *testing.T) {
	for _, c := range []struct{ lifetime, stay int64 }{
		{math.MinInt64, 1}, {-1, 1}, {0, 1}, {1, 1}, {2, 1}, {3, 2}, {9, 8}, {10, 9}, {11, 10}, {19, 18}, {20, 18}, {21, 19}, {29, 27}, {30, 27}, {99, 90}, {100, 90}, {109, 99}, {110, 99}, {86399, 77760}, {86400, 77760}, {86401, 77760}, {1 << 32, 77760}, {math.MaxInt64, 77760},
	} {
		l := reg.New()
		wants(t, "Start", l.Start(true, c.lifetime, 3), join)
		wants(t, "Answer", l.Answer(65, []string{"a"}, 4), none)
		stands(t, "joined", l, joined, 4+c.stay, "a")
		l = in(t, joined)
		wants(t, "Renew", l.Renew(c.lifetime, 3), renew)
		wants(t, "Answer", l.Answer(68, nil, 4), none)
		stands(t, "renewed", l, joined, 4+c.stay, "rd", "a")
		wants(t, "Pass", l.Pass(4+c.stay), renew)
		wants(t, "Answer", l.Answer(68, nil, 100000), none)
		stands(t, "once more", l, joined, 100000+c.stay, "rd", "a")
	}
}

// P24.1: the range of times.
func TestTimes(t *testing.T) {
	const most = 1 << 40
	for _, c := range []struct{ now, counts int64 }{{math.MinInt64, 0}, {-1, 0}, {0, 0}, {1, 1}, {most - 1, most - 1}, {most, most}, {most + 1, most}, {math.MaxInt64, most}} {
		l := in(t, joining)
		l.Answer(65, []string{"a"}, c.now)
		stands(t, "joined", l, joined, min(c.counts+90, most), "a")
		l = in(t, asking)
		l.Answer(68, nil, c.now)
		stands(t, "waiting", l, waiting, min(c.counts+1000, most))
		l = in(t, joining)
		l.Lost(c.now)
		stands(t, "resting", l, resting, min(c.counts+60, most))
	}
	// At the end of all times what is to be done is to be done at once.
	l := in(t, joining)
	l.Lost(math.MaxInt64)
	wants(t, "Pass", l.Pass(most-1), join)
	l.Answer(65, []string{"a"}, 0)
	wants(t, "Pass", l.Pass(0), renew)
}

// P24.1: each call's time counts for those behind it, also where the call does nothing.
func TestTimeDoesNotGoBack(t *testing.T) {
	for what, tell := range map[string]func(l *reg.Life){
		"Start":  func(l *reg.Life) { l.Start(true, 100, 500) },
		"Answer": func(l *reg.Life) { l.Answer(65, nil, 500) },
		"Lost":   func(l *reg.Life) { l.Lost(500) },
		"Finish": func(l *reg.Life) { l.Finish(true, 500) },
		"Pass":   func(l *reg.Life) { l.Pass(500) },
		"Renew":  func(l *reg.Life) { l.Renew(100, 500) },
		"Leave":  func(l *reg.Life) { l.Leave(500) },
	} {
		l := reg.New()
		tell(l)
		wants(t, what, l.Start(true, 100, 3), join)
		wants(t, what, l.Lost(499), none)
		stands(t, what, l, resting, 560)
		wants(t, what, l.Pass(559), none)
		wants(t, what, l.Pass(560), join)
		l.Answer(65, []string{"a"}, 2)
		stands(t, what, l, joined, 650, "a")
	}
	// A time ahead counts as that: what was due then is due.
	l := in(t, resting)
	l.Lost(60)
	wants(t, "Pass", l.Pass(0), join)
}

// P24.2: time goes by tick by tick, and each answer comes at once: it is renewed before each lifetime ends.
func TestItIsRenewedInTime(t *testing.T) {
	for lifetime := int64(2); lifetime < 400; lifetime++ {
		for _, first := range []int64{0, 7, 1 << 30} {
			l := reg.New()
			l.Start(true, lifetime, first)
			l.Answer(65, []string{"a"}, first)
			since, times := first, 0
			for now := first; now < first+3*lifetime+9; now++ {
				if l.Pass(now) == renew {
					times++
					l.Answer(68, nil, now)
					since = now
				}
				if l.State() != joined || now-since >= lifetime {
					t.Fatalf("lifetime %d: not renewed at %d", lifetime, now)
				}
			}
			if times < 3 {
				t.Errorf("lifetime %d: renewed %d times", lifetime, times)
			}
		}
	}
	for _, lifetime := range []int64{86399, 86400, 1 << 50} {
		l := reg.New()
		l.Start(true, lifetime, 0)
		l.Answer(65, []string{"a"}, 0)
		now := int64(0)
		for l.Pass(now) == none {
			now++
		}
		if now >= 86400 || now >= lifetime || l.State() != renewing {
			t.Errorf("lifetime %d: renewed at %d", lifetime, now)
		}
	}
}
