package exch_test

import (
	"math"
	"math/rand"
	"slices"
	"strconv"
	"testing"

	"outpost/api"
	"outpost/exch"
)

// model has all that is ever to be sent of each exchange, from its beginning on.
type model struct {
	now    int64
	began  int
	events []event
}

type event struct {
	to, id, began int
	at            int64
	data          string
	lost          bool
}

func (m *model) tell(now int64) {
	if now > 1<<40 {
		now = 1 << 40
	}
	if now > m.now {
		m.now = now
	}
}

func (m *model) has(to, id int) bool {
	return slices.ContainsFunc(m.events, func(e event) bool { return e.to == to && e.id == id })
}

func (m *model) len() int {
	n := 0
	for _, e := range m.events {
		if e.lost {
			n++
		}
	}
	return n
}

func (m *model) start(to, id int, data string, now int64, rand int) api.Errno {
	m.tell(now)
	if m.has(to, id) {
		return api.ErrTwice
	}
	if m.len() == 4 {
		return api.ErrFull
	}
	first := int64(20)
	if rand > 0 {
		first += int64(rand % 11)
	}
	m.began++
	for i, times := range []int64{1, 3, 7, 15, 31} {
		at := m.now + times*first
		if at > 1<<40 {
			at = 1 << 40
		}
		m.events = append(m.events, event{to, id, m.began, at, data, i == 4})
	}
	slices.SortStableFunc(m.events, func(a, b event) int {
		if a.at != b.at {
			return int(a.at - b.at)
		}
		return a.began - b.began
	})
	return api.OK
}

func (m *model) stop(to, id int) bool {
	is := m.has(to, id)
	m.events = slices.DeleteFunc(m.events, func(e event) bool { return e.to == to && e.id == id })
	return is
}

func (m *model) pass(now int64) string {
	m.tell(now)
	text := ""
	for len(m.events) > 0 && m.events[0].at <= m.now {
		e := m.events[0]
		m.events = m.events[1:]
		text += " " + strconv.Itoa(e.to) + "." + strconv.Itoa(e.id)
		if e.lost {
			text += "!"
		}
		text += e.data
	}
	return text
}

// someTime is mostly that which it is, at times one far from it.
func someTime(r *rand.Rand, now int64) int64 {
	switch r.Intn(12) {
	case 0:
		return now - int64(r.Intn(300))
	case 1:
		return now + int64(r.Intn(300))
	case 2:
		return -int64(r.Intn(3))
	case 3:
		return math.MinInt64
	}
	return now
}

// P12.1, P12.2, P2: whatever calls come, in whatever order.
func TestAgainstAModel(t *testing.T) {
	r := rand.New(rand.NewSource(12))
	count := map[string]int{}
	for n := range 2000 {
		x, m := exch.New(), &model{}
		now := int64(r.Intn(1000))
		if n%3 == 0 {
			now = 1<<40 - int64(r.Intn(2500))
		}
		for i := range 150 {
			to, id, at := r.Intn(2), r.Intn(4), someTime(r, now)
			now += int64(r.Intn(30))
			switch r.Intn(8) {
			case 0, 1, 2:
				data, rand := strconv.Itoa(i)[r.Intn(2):], r.Intn(40)-5
				e := m.start(to, id, data, at, rand)
				if got := x.Start(to, id, []byte(data), at, rand); got != e {
					t.Errorf("Start of %d, %d at %d: %d, want %d", to, id, at, got, e)
				}
				count["start "+strconv.Itoa(int(e))]++
			case 3:
				if is := m.stop(to, id); x.Stop(to, id) != is {
					t.Errorf("Stop of %d, %d: want %t", to, id, is)
				}
			case 4:
				if r.Intn(30) == 0 {
					x.Clear()
					m.events = nil
				}
			default:
				want := m.pass(at)
				passes(t, x, at, want)
				if want != "" {
					count["sent"]++
				}
			}
			holds(t, x, m)
		}
		if t.Failed() {
			t.FailNow()
		}
	}
	for _, what := range []string{"start 0", "start 5", "start 6", "sent"} {
		if count[what] < 1000 {
			t.Errorf("%s: %d", what, count[what])
		}
	}
}

// holds holds what is asked without turning anything.
func holds(t *testing.T, x *exch.Table, m *model) {
	t.Helper()
	if x.Len() != m.len() {
		t.Errorf("Len: %d, want %d", x.Len(), m.len())
	}
	for to := range 3 {
		for id := range 4 {
			if x.Has(to, id) != m.has(to, id) {
				t.Errorf("Has of %d, %d: want %t", to, id, m.has(to, id))
			}
		}
	}
	if len(m.events) > 0 {
		next(t, x, m.events[0].at)
	} else {
		next(t, x, -1)
	}
}
