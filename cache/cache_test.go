package cache_test

import (
	"bytes"
	"math"
	"math/rand"
	"strconv"
	"testing"

	"outpost/api"
	"outpost/cache"
)

// finds holds what is kept for an endpoint's message; "-" is nothing.
func finds(t *testing.T, c *cache.Cache, from, id int, now int64, want string) {
	t.Helper()
	reply, ok := c.Find(from, id, now)
	if ok != (want != "-") || ok && string(reply) != want || !ok && reply != nil {
		t.Errorf("Find of %d, %d at %d: %q, %t, want %q", from, id, now, reply, ok, want)
	}
}

func counts(t *testing.T, c *cache.Cache, now int64, want int) {
	t.Helper()
	if n := c.Len(now); n != want {
		t.Errorf("Len at %d: %d, want %d", now, n, want)
	}
}

// P11.1: the document's own example, and the bound it names.
func TestLife(t *testing.T) {
	c := cache.New()
	finds(t, c, 1, 7, 10, "-")
	counts(t, c, 10, 0)
	c.Keep(1, 7, 10, []byte("reply"))
	for _, now := range []int64{10, 11, 255, 256} {
		finds(t, c, 1, 7, now, "reply")
		counts(t, c, now, 1)
	}
	for _, now := range []int64{257, 258, 1000, api.MaxTicks, math.MaxInt64} {
		finds(t, c, 1, 7, now, "-")
		counts(t, c, now, 0)
	}
	// A time that is earlier counts as that at which it was kept; nothing is gone by having been asked for later.
	for _, now := range []int64{9, 1, 0, -1, math.MinInt64, 256} {
		finds(t, c, 1, 7, now, "reply")
		counts(t, c, now, 1)
	}
	if cache.Life != 247 {
		t.Error("Life")
	}
}

// P11.1: an endpoint's message is told by both numbers, whatever they are.
func TestWhose(t *testing.T) {
	c := cache.New()
	numbers := []int{0, 1, -1, 65536, 1 << 32, math.MinInt, math.MaxInt}
	c.Keep(1, 1, 5, []byte("one"))
	for _, from := range numbers {
		for _, id := range numbers {
			if from != 1 || id != 1 {
				finds(t, c, from, id, 5, "-")
			}
			other := cache.New()
			other.Keep(from, id, 5, []byte("x"))
			finds(t, other, from, id, 6, "x")
			finds(t, other, from+1, id, 6, "-")
			finds(t, other, from, id+1, 6, "-")
		}
	}
	finds(t, c, 1, 1, 5, "one")
	c.Keep(1, 2, 5, []byte("two"))
	c.Keep(2, 1, 5, []byte("three"))
	finds(t, c, 1, 1, 5, "one")
	finds(t, c, 1, 2, 5, "two")
	finds(t, c, 2, 1, 5, "three")
	finds(t, c, 2, 2, 5, "-")
	counts(t, c, 5, 3)
}

// P11.1: an empty reply is one that is kept.
func TestEmptyReply(t *testing.T) {
	c := cache.New()
	c.Keep(1, 1, 5, nil)
	c.Keep(1, 2, 5, []byte{})
	finds(t, c, 1, 1, 5, "")
	finds(t, c, 1, 2, 251, "")
	finds(t, c, 1, 2, 252, "-")
	counts(t, c, 5, 2)
	c.Keep(1, 1, 6, []byte("x"))
	finds(t, c, 1, 1, 6, "x")
	c.Keep(1, 1, 7, nil)
	finds(t, c, 1, 1, 7, "")
}

// P11.1: a reply is kept in the place of that to the same message, from its own time on, earlier or later.
func TestKeptAnew(t *testing.T) {
	c := cache.New()
	c.Keep(1, 1, 100, []byte("first"))
	c.Keep(1, 1, 200, []byte("second"))
	counts(t, c, 200, 1)
	finds(t, c, 1, 1, 100, "second")
	finds(t, c, 1, 1, 446, "second")
	finds(t, c, 1, 1, 447, "-")
	c.Keep(1, 1, 50, []byte("third"))
	counts(t, c, 50, 1)
	finds(t, c, 1, 1, 296, "third")
	finds(t, c, 1, 1, 297, "-")
	c.Keep(1, 1, 900, []byte("fourth"))
	finds(t, c, 1, 1, 900, "fourth")
	counts(t, c, 900, 1)
}

// P11.1: times below 0 count as 0, those above MaxTicks as that.
func TestTimesOutOfRange(t *testing.T) {
	for _, early := range []int64{-1, -247, -1 << 40, math.MinInt64, 0} {
		c := cache.New()
		c.Keep(1, 1, early, []byte("x"))
		finds(t, c, 1, 1, math.MinInt64, "x")
		finds(t, c, 1, 1, 246, "x")
		finds(t, c, 1, 1, 247, "-")
		counts(t, c, -5, 1)
		counts(t, c, 246, 1)
		counts(t, c, 247, 0)
	}
	for _, late := range []int64{1 << 40, 1<<40 + 1, 1<<40 + 1000, math.MaxInt64} {
		c := cache.New()
		c.Keep(1, 1, late, []byte("x"))
		for _, now := range []int64{0, 1 << 40, 1<<40 + 247, math.MaxInt64} {
			finds(t, c, 1, 1, now, "x")
			counts(t, c, now, 1)
		}
		c.Keep(1, 1, 1<<40-246, []byte("y"))
		c.Keep(1, 2, 1<<40-247, []byte("z"))
		finds(t, c, 1, 1, late, "y")
		finds(t, c, 1, 2, late, "-")
		counts(t, c, late, 1)
	}
}

// P11.1, P11.2: a ninth one lets the one go that was kept first, and none but that.
func TestTheFirstGoes(t *testing.T) {
	c := cache.New()
	for i := range 30 {
		c.Keep(1, i, int64(i), []byte(strconv.Itoa(i)))
		for k := range i + 2 {
			if k <= i && k > i-8 {
				finds(t, c, 1, k, int64(i), strconv.Itoa(k))
			} else {
				finds(t, c, 1, k, int64(i), "-")
			}
		}
		counts(t, c, int64(i), min(i+1, 8))
	}
	// Kept anew is kept last; no other one goes for it.
	c.Keep(1, 22, 30, []byte("anew"))
	counts(t, c, 30, 8)
	c.Keep(1, 30, 31, []byte("30"))
	finds(t, c, 1, 22, 31, "anew")
	finds(t, c, 1, 23, 31, "-")
	finds(t, c, 1, 24, 31, "24")
	counts(t, c, 31, 8)
}

// P11.1: of those of one time the one whose Keep came first goes, also where that is a Keep anew.
func TestOfOneTime(t *testing.T) {
	c := cache.New()
	for i := range 8 {
		c.Keep(i, 0, 40, []byte("x"))
	}
	c.Keep(0, 0, 40, []byte("anew"))
	c.Keep(8, 0, 40, []byte("x"))
	finds(t, c, 0, 0, 40, "anew")
	finds(t, c, 1, 0, 40, "-")
	c.Keep(9, 0, 41, []byte("x"))
	finds(t, c, 2, 0, 41, "-")
	finds(t, c, 3, 0, 41, "x")
	counts(t, c, 41, 8)
	// Times that are clamped to one are one.
	for i := range 8 {
		c.Keep(i, 1, math.MaxInt64-int64(i), []byte("y"))
	}
	c.Keep(8, 1, 1<<40, []byte("y"))
	finds(t, c, 0, 1, 1<<40, "-")
	finds(t, c, 1, 1, 1<<40, "y")
}

// P11.1: where times go back, the first one is that of the earliest time, whenever its Keep came.
func TestTimesThatGoBack(t *testing.T) {
	c := cache.New()
	for i, at := range []int64{50, 20, 80, 20, 70, 60, 90, 30} {
		c.Keep(1, i, at, []byte("x"))
	}
	gone := map[int]bool{}
	for n, goes := range []int{1, 3, 7, 0, 5, 4, 2, 6} {
		c.Keep(2, n, 100+int64(n), []byte("new"))
		gone[goes] = true
		for i := range 8 {
			want := "x"
			if gone[i] {
				want = "-"
			}
			finds(t, c, 1, i, 100, want)
		}
		finds(t, c, 2, n, 100, "new")
	}
}

// P11.1, P11.2: the new one is the one that goes if it was kept first, at a time ahead of all others; of their first one's time it stays, and that goes.
func TestTheNewOneGoes(t *testing.T) {
	full := func() *cache.Cache {
		c := cache.New()
		for i := range 8 {
			c.Keep(1, i, int64(10+i), []byte("x"))
		}
		return c
	}
	for _, early := range []int64{9, 5, 0, -1, math.MinInt64} {
		c := full()
		c.Keep(2, 0, early, []byte("early"))
		finds(t, c, 2, 0, early, "-")
		for i := range 8 {
			finds(t, c, 1, i, 17, "x")
		}
		counts(t, c, 17, 8)
	}
	for _, late := range []int64{10, 11, 17, 18, math.MaxInt64} {
		c := full()
		c.Keep(2, 0, late, []byte("late"))
		finds(t, c, 2, 0, late, "late")
		finds(t, c, 1, 0, 17, "-")
		for i := 1; i < 8; i++ {
			finds(t, c, 1, i, 17, "x")
		}
	}
	// In the place of its own it makes no more than there were; then it is the first one.
	c := full()
	c.Keep(1, 5, 0, []byte("anew"))
	counts(t, c, 17, 8)
	finds(t, c, 1, 5, 0, "anew")
	c.Keep(2, 0, 1, []byte("y"))
	finds(t, c, 1, 5, 0, "-")
	finds(t, c, 2, 0, 1, "y")
	finds(t, c, 1, 0, 17, "x")
}

// P11.1: those whose life is over are there no less: they are told at an earlier time, and go like others.
func TestOver(t *testing.T) {
	c := cache.New()
	for i := range 4 {
		c.Keep(1, i, int64(i), []byte("old"))
	}
	for i := range 5 {
		c.Keep(2, i, 1000, []byte("new"))
	}
	counts(t, c, 1000, 5)
	counts(t, c, 5, 8)
	finds(t, c, 1, 0, 5, "-")
	finds(t, c, 1, 1, 5, "old")
	finds(t, c, 1, 3, 1000, "-")
	finds(t, c, 1, 3, 249, "old")
	counts(t, c, 248, 7)
	counts(t, c, 249, 6)
}

// P11.1: all are gone, and it goes on as a new one.
func TestClear(t *testing.T) {
	c := cache.New()
	c.Clear()
	for i := range 9 {
		c.Keep(1, i, 9, []byte("x"))
	}
	c.Clear()
	counts(t, c, 9, 0)
	counts(t, c, 0, 0)
	for i := range 9 {
		finds(t, c, 1, i, 9, "-")
	}
	for i := range 8 {
		c.Keep(1, i, 3, []byte("y"))
	}
	counts(t, c, 3, 8)
	finds(t, c, 1, 0, 3, "y")
	other := cache.New()
	c.Clear()
	other.Keep(1, 1, 3, []byte("z"))
	counts(t, c, 3, 0)
	finds(t, c, 1, 1, 3, "-")
}

// P11.2: of the last 8 messages that were answered each is found, as long as Life hasn't gone by.
func TestTheLastEightAreFound(t *testing.T) {
	r := rand.New(rand.NewSource(13))
	for range 300 {
		c := cache.New()
		now := int64(r.Intn(100))
		type kept struct {
			from, id int
			at       int64
			reply    string
		}
		var last []kept // the first one ahead
		for n := range 100 {
			if r.Intn(3) > 0 {
				now += int64(r.Intn(90))
			}
			k := kept{r.Intn(3), r.Intn(5), now, strconv.Itoa(n)}
			c.Keep(k.from, k.id, now, []byte(k.reply))
			for i, x := range last {
				if x.from == k.from && x.id == k.id {
					last = append(last[:i:i], last[i+1:]...)
					break
				}
			}
			last = append(last, k)
			last = last[max(len(last)-8, 0):]
			for _, x := range last {
				want := x.reply
				if now-x.at >= 247 {
					want = "-"
				}
				finds(t, c, x.from, x.id, now, want)
			}
		}
	}
}

// model is answers that are kept, written otherwise: by messages, each with its time and how many Keeps came ahead.
type model struct {
	kept    map[[2]int]entry
	keeps   int
	refused int // how often the one that was handed in went
}

type entry struct {
	at, nth int
	reply   string
}

func inRange(now int64) int {
	switch {
	case now < 0:
		return 0
	case now > 1099511627776:
		return 1099511627776
	}
	return int(now)
}

func (e entry) lives(now int64) bool { return inRange(now) <= e.at+246 }

func (m *model) keep(from, id int, now int64, reply string) {
	m.keeps++
	m.kept[[2]int{from, id}] = entry{inRange(now), m.keeps, reply}
	if len(m.kept) <= 8 {
		return
	}
	first, at, nth := [2]int{}, math.MaxInt, 0
	for k, e := range m.kept {
		if e.at < at || e.at == at && e.nth < nth {
			first, at, nth = k, e.at, e.nth
		}
	}
	if first == [2]int{from, id} {
		m.refused++
	}
	delete(m.kept, first)
}

func (m *model) find(from, id int, now int64) string {
	if e, ok := m.kept[[2]int{from, id}]; ok && e.lives(now) {
		return e.reply
	}
	return "-"
}

func (m *model) len(now int64) int {
	n := 0
	for _, e := range m.kept {
		if e.lives(now) {
			n++
		}
	}
	return n
}

// someTime is one about now, mostly.
func someTime(r *rand.Rand, now int64) int64 {
	switch r.Intn(12) {
	case 0:
		return now - int64(r.Intn(400))
	case 1:
		return now + int64(r.Intn(400))
	case 2:
		return []int64{0, -1, math.MinInt64, math.MaxInt64, 1 << 40, 1<<40 + 1, 1<<40 - 100}[r.Intn(7)]
	}
	return now
}

// P11.1, P2: whatever calls come, in whatever order.
func TestAgainstAModel(t *testing.T) {
	r := rand.New(rand.NewSource(14))
	found, lost, refused := 0, 0, 0
	for n := range 1000 {
		c, m := cache.New(), &model{kept: map[[2]int]entry{}}
		now := int64(r.Intn(1000))
		if n%3 == 0 {
			now = 1<<40 - int64(r.Intn(1500))
		}
		for i := range 200 {
			from, id, at := r.Intn(3), r.Intn(6), someTime(r, now)
			now += int64(r.Intn(20))
			switch r.Intn(5) {
			case 0, 1:
				reply := strconv.Itoa(i)[r.Intn(2):]
				c.Keep(from, id, at, []byte(reply))
				m.keep(from, id, at, reply)
			case 2:
				counts(t, c, at, m.len(at))
			case 3:
				if r.Intn(40) == 0 {
					c.Clear()
					m.kept = map[[2]int]entry{}
				}
			default:
				want := m.find(from, id, at)
				finds(t, c, from, id, at, want)
				if want != "-" {
					found++
				} else {
					lost++
				}
			}
		}
		refused += m.refused
		if t.Failed() {
			t.FailNow()
		}
	}
	if found < 5000 || lost < 5000 || refused < 1000 {
		t.Errorf("%d found, %d not, %d not kept", found, lost, refused)
	}
}

// P1: one that New didn't make panics as little: it is empty.
func TestZeroCache(t *testing.T) {
	var c cache.Cache
	c.Clear()
	counts(t, &c, 0, 0)
	finds(t, &c, 0, 0, 0, "-")
	c.Keep(0, 0, 0, []byte("x"))
	finds(t, &c, 0, 0, 0, "x")
}

// P11.3: a reply that was handed in may be written over, and is not turned; what Find answers is nobody else's, spare room too.
func TestMemory(t *testing.T) {
	c := cache.New()
	row := []byte("one two three, and spare room")
	c.Keep(1, 1, 5, row[:3])
	c.Keep(1, 2, 5, row[4:7])
	c.Keep(1, 3, 5, row[8:13])
	c.Keep(1, 4, 5, row[:0])
	if string(row) != "one two three, and spare room" {
		t.Error("a reply is turned")
	}
	clear(row)
	whole := func() {
		t.Helper()
		for id, want := range []string{"one", "two", "three", ""} {
			finds(t, c, 1, id+1, 5, want)
		}
	}
	whole()
	for id := 1; id <= 4; id++ {
		a, _ := c.Find(1, id, 5)
		b, _ := c.Find(1, id, 5)
		text := string(b)
		for i := range a[:cap(a)] {
			a[:cap(a)][i] = 255
		}
		if string(b) != text {
			t.Errorf("two answers share memory: %q", b)
		}
		_ = append(b, "more"...)
		whole()
	}
	if !bytes.Equal(row, make([]byte, len(row))) {
		t.Error("what was handed in is turned behind the call")
	}
	reply, _ := c.Find(1, 3, 5)
	for i := range 9 {
		c.Keep(2, i, 6, []byte("other"))
	}
	c.Clear()
	if string(reply) != "three" {
		t.Errorf("an answer is turned by later calls: %q", reply)
	}
}
