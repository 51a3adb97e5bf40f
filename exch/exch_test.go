package exch_test

import (
	"math"
	"slices"
	"strconv"
	"testing"

	"outpost/api"
	"outpost/exch"
)

// starts begins an exchange, and holds the answer.
func starts(t *testing.T, x *exch.Table, to, id int, now int64, rand int, want api.Errno) {
	t.Helper()
	if e := x.Start(to, id, []byte(strconv.Itoa(id)), now, rand); e != want {
		t.Errorf("Start of %d, %d at %d: %d, want %d", to, id, now, e, want)
	}
}

// next holds the next time; below 0 there is none.
func next(t *testing.T, x *exch.Table, want int64) {
	t.Helper()
	if n, ok := x.Next(); ok != (want >= 0) || n != max(want, 0) {
		t.Errorf("Next: %d, %t, want %d", n, ok, want)
	}
}

// told is what was sent in words: of each the endpoint, the ID, "!" if it is lost, and the data.
func told(all []exch.Sent) string {
	text := ""
	for _, s := range all {
		text += " " + strconv.Itoa(s.To) + "." + strconv.Itoa(s.ID)
		if s.Lost {
			text += "!"
		}
		text += string(s.Data)
	}
	return text
}

// passes holds what is sent up to a time.
func passes(t *testing.T, x *exch.Table, now int64, want string) {
	t.Helper()
	if got := told(x.Pass(now)); got != want {
		t.Errorf("Pass of %d:%s, want%s", now, got, want)
	}
}

// P12.1, P12.2: the document's own example: nothing is sent a tick ahead of its time.
func TestExample(t *testing.T) {
	if exch.Wait != 20 || exch.Again != 4 {
		t.Error("Wait, Again")
	}
	x := exch.New()
	starts(t, x, 1, 7, 0, 0, api.OK)
	passes(t, x, 0, "")
	for i, at := range []int64{20, 60, 140, 300, 620} {
		next(t, x, at)
		passes(t, x, at-1, "")
		next(t, x, at)
		want := " 1.77"
		if i == 4 {
			want = " 1.7!7"
		}
		passes(t, x, at, want)
		if x.Has(1, 7) != (i < 4) {
			t.Errorf("at %d: %t", at, x.Has(1, 7))
		}
	}
	next(t, x, -1)
	passes(t, x, 5000, "")
}

// P12.1, P12.2: of the random number what is left counts, divided by 11; one below 0 counts as 0.
func TestFirstWait(t *testing.T) {
	for rand, first := range map[int]int64{0: 20, 1: 21, 5: 25, 9: 29, 10: 30, 11: 20, 12: 21, 21: 30, 22: 20, 109: 30, 110: 20, math.MaxInt: 20 + math.MaxInt%11, -1: 20, -5: 20, -11: 20, math.MinInt: 20} {
		x := exch.New()
		starts(t, x, 1, 7, 1000, rand, api.OK)
		at := int64(1000)
		for i := range 5 {
			at += first << i
			next(t, x, at)
			passes(t, x, at-1, "")
			if got := x.Pass(at); len(got) != 1 || got[0].Lost != (i == 4) {
				t.Errorf("a random number of %d, at %d: %v", rand, at, got)
			}
		}
		next(t, x, -1)
	}
}

// P12.2: it is all the same in how many steps time goes by: each waits from its time on, not from the step's.
func TestSteps(t *testing.T) {
	run := func(step int64) (all []exch.Sent) {
		x := exch.New()
		for i, rand := range []int{3, 0, 10, 0} {
			starts(t, x, i, 50+i, int64(7*i), rand, api.OK)
		}
		for now := int64(21); now < 1000+step; now += step {
			all = append(all, x.Pass(now)...)
		}
		return all
	}
	want := told(run(1))
	for _, step := range []int64{2, 3, 7, 13, 20, 21, 59, 100, 299, 640, 5000} {
		if got := told(run(step)); got != want {
			t.Errorf("steps of %d:%s\nwant%s", step, got, want)
		}
	}
	if len(run(1)) != 20 || len(run(5000)) != 20 {
		t.Error("each is sent 4 times, and lost")
	}
}

// P12.1: in the order of the times, of one time in that in which they began, whatever their numbers.
func TestOrder(t *testing.T) {
	x := exch.New()
	starts(t, x, 9, 1, 0, 10, api.OK) // 30, 90
	starts(t, x, 3, 2, 10, 0, api.OK) // 30, 70
	starts(t, x, 5, 3, 10, 0, api.OK) // 30, 70
	starts(t, x, 1, 4, 10, 4, api.OK) // 34, 82
	passes(t, x, 29, "")
	passes(t, x, 90, " 9.11 3.22 5.33 1.44 3.22 5.33 1.44 9.11")

	// One that is over and begins anew is behind the others.
	x = exch.New()
	starts(t, x, 1, 1, 0, 0, api.OK)
	starts(t, x, 1, 2, 0, 0, api.OK)
	starts(t, x, 1, 3, 0, 0, api.OK)
	if !x.Stop(1, 1) {
		t.Error("Stop")
	}
	starts(t, x, 1, 1, 0, 0, api.OK)
	passes(t, x, 20, " 1.22 1.33 1.11")
	// What is sent again keeps its place.
	passes(t, x, 60, " 1.22 1.33 1.11")
	passes(t, x, 619, " 1.22 1.33 1.11 1.22 1.33 1.11")
	passes(t, x, 620, " 1.2!2 1.3!3 1.1!1")
	if x.Len() != 0 {
		t.Error("all are lost")
	}
}

// P12.1: ErrTwice is told ahead of ErrFull; neither turns what is there.
func TestRefused(t *testing.T) {
	x := exch.New()
	for i := range 4 {
		starts(t, x, i, i, 0, i, api.OK)
		starts(t, x, i, i, 0, 7, api.ErrTwice)
		if x.Len() != i+1 || !x.Has(i, i) {
			t.Errorf("%d of %d", x.Len(), i+1)
		}
	}
	for i := range 4 {
		starts(t, x, i, i, 0, 0, api.ErrTwice)
	}
	starts(t, x, 4, 4, 0, 0, api.ErrFull)
	starts(t, x, 0, 1, 0, 0, api.ErrFull)
	if x.Len() != 4 || x.Has(4, 4) || x.Has(0, 1) {
		t.Error("what is refused is there")
	}
	if e := x.Start(1, 1, []byte("other"), 0, 0); e != api.ErrTwice {
		t.Error("ErrTwice")
	}
	passes(t, x, 23, " 0.00 1.11 2.22 3.33")
	if !x.Stop(2, 2) {
		t.Error("Stop")
	}
	starts(t, x, 4, 4, 23, 0, api.OK)
	starts(t, x, 2, 2, 23, 0, api.ErrFull)
	// What is lost makes room as well.
	for i := range 4 {
		if want := []int{0, 1, 3, 4}[i]; !x.Has(want, want) {
			t.Errorf("%d is gone", want)
		}
	}
	x.Pass(620)
	starts(t, x, 2, 2, 620, 0, api.OK)
}

// P12.1: an exchange is told by both numbers, whatever they are.
func TestWhose(t *testing.T) {
	numbers := []int{0, 1, -1, 65536, 1 << 32, math.MinInt, math.MaxInt}
	for _, to := range numbers {
		for _, id := range numbers {
			x := exch.New()
			starts(t, x, to, id, 0, 0, api.OK)
			for _, a := range numbers {
				for _, b := range numbers {
					if is := a == to && b == id; x.Has(a, b) != is || !is && x.Stop(a, b) {
						t.Errorf("%d, %d is told as %d, %d", to, id, a, b)
					}
				}
			}
			if got := x.Pass(20); len(got) != 1 || got[0].To != to || got[0].ID != id {
				t.Errorf("%d, %d: %v", to, id, got)
			}
			if !x.Stop(to, id) || x.Has(to, id) || x.Len() != 0 {
				t.Errorf("%d, %d isn't over", to, id)
			}
		}
	}
}

// P12.1: what is over isn't sent any more, and may begin anew.
func TestStop(t *testing.T) {
	x := exch.New()
	if x.Stop(1, 1) || x.Has(1, 1) || x.Len() != 0 {
		t.Error("nothing is there")
	}
	next(t, x, -1)
	starts(t, x, 1, 1, 0, 0, api.OK)
	starts(t, x, 1, 2, 5, 0, api.OK)
	starts(t, x, 2, 1, 9, 0, api.OK)
	next(t, x, 20)
	passes(t, x, 20, " 1.11")
	next(t, x, 25)
	if !x.Stop(1, 2) || x.Stop(1, 2) || x.Has(1, 2) || x.Len() != 2 || !x.Has(1, 1) || !x.Has(2, 1) {
		t.Error("Stop")
	}
	next(t, x, 29)
	passes(t, x, 59, " 2.11")
	if !x.Stop(1, 1) || !x.Stop(2, 1) {
		t.Error("Stop")
	}
	next(t, x, -1)
	passes(t, x, 10000, "")
	starts(t, x, 1, 1, 10000, 0, api.OK)
	passes(t, x, 10300, " 1.11 1.11 1.11 1.11")
	passes(t, x, 10620, " 1.1!1")
	if x.Stop(1, 1) || x.Has(1, 1) {
		t.Error("it is lost")
	}
}

// P12.1: a time below 0 counts as 0, one above MaxTicks as that, one that is less than one ahead as that, be it of Start or of Pass.
func TestTimesThatCountAsOthers(t *testing.T) {
	for _, early := range []int64{-1, -1000, math.MinInt64} {
		x := exch.New()
		starts(t, x, 1, 1, early, 0, api.OK)
		passes(t, x, early, "")
		next(t, x, 20)
	}
	x := exch.New()
	starts(t, x, 1, 1, 100, 0, api.OK)
	starts(t, x, 1, 2, 99, 0, api.OK)
	passes(t, x, 50, "")
	passes(t, x, 120, " 1.11 1.22")
	starts(t, x, 1, 3, 0, 0, api.OK) // at 120
	starts(t, x, 1, 4, 119, 0, api.OK)
	passes(t, x, 139, "")
	passes(t, x, 140, " 1.33 1.44")
	// A Start lets time go by, too: what is up then is sent at the next Pass, whatever it tells.
	x = exch.New()
	starts(t, x, 1, 1, 0, 0, api.OK)
	starts(t, x, 1, 2, 70, 0, api.OK)
	next(t, x, 20)
	passes(t, x, 0, " 1.11 1.11")
	next(t, x, 90)
	// So does one that is refused.
	starts(t, x, 1, 2, 89, 0, api.ErrTwice)
	passes(t, x, 0, "")
	starts(t, x, 1, 2, 90, 0, api.ErrTwice)
	passes(t, x, -1, " 1.22")
	starts(t, x, 1, 3, 90, 0, api.OK)
	starts(t, x, 1, 4, 90, 0, api.OK)
	starts(t, x, 1, 5, 110, 0, api.ErrFull)
	passes(t, x, 100, " 1.33 1.44")
}

// P12.1, P12.2: a time that would be above MaxTicks is MaxTicks; there all that is left is done, the one that began first ahead.
func TestTheEndOfTime(t *testing.T) {
	const most = 1 << 40
	for _, late := range []int64{most, most + 1, math.MaxInt64} {
		x := exch.New()
		starts(t, x, 1, 1, late, 0, api.OK)
		starts(t, x, 1, 2, late, 5, api.OK)
		next(t, x, most)
		passes(t, x, 0, " 1.11 1.11 1.11 1.11 1.1!1 1.22 1.22 1.22 1.22 1.2!2")
		next(t, x, -1)
		starts(t, x, 1, 3, 0, 0, api.OK)
		next(t, x, most)
	}
	x := exch.New()
	starts(t, x, 1, 1, most-62, 0, api.OK) // most - 42, most - 2, and what is left at most
	starts(t, x, 1, 2, most-30, 0, api.OK) // most - 10
	starts(t, x, 1, 3, most-30, 10, api.OK)
	passes(t, x, most-1, " 1.11 1.22 1.11")
	next(t, x, most)
	passes(t, x, most+9, " 1.11 1.11 1.1!1 1.22 1.22 1.22 1.2!2 1.33 1.33 1.33 1.33 1.3!3")
	// The last time is counted from the one ahead, so it may be MaxTicks itself.
	x = exch.New()
	starts(t, x, 1, 1, most-620, 0, api.OK)
	passes(t, x, most-1, " 1.11 1.11 1.11 1.11")
	passes(t, x, most, " 1.1!1")
}

// P12.1: all are over; the time that was told stays.
func TestClear(t *testing.T) {
	x := exch.New()
	x.Clear()
	for i := range 4 {
		starts(t, x, i, 1, 500, 0, api.OK)
	}
	x.Clear()
	if x.Len() != 0 || x.Has(0, 1) || x.Stop(1, 1) {
		t.Error("Clear")
	}
	next(t, x, -1)
	passes(t, x, 560, "")
	for i := range 4 {
		starts(t, x, i, 1, 0, 0, api.OK)
	}
	next(t, x, 580)
	other := exch.New()
	starts(t, other, 1, 1, 3, 0, api.OK)
	x.Clear()
	next(t, other, 23)
}

// P1: one that New didn't make panics as little: it is empty.
func TestZeroTable(t *testing.T) {
	var x exch.Table
	x.Clear()
	next(t, &x, -1)
	passes(t, &x, 10, "")
	if x.Stop(0, 0) || x.Has(0, 0) || x.Len() != 0 {
		t.Error("it isn't empty")
	}
	starts(t, &x, 0, 0, 0, 0, api.OK)
	passes(t, &x, 30, " 0.00")
}

// P12.3: data may be written over, and isn't turned, behind its length neither; each answer's data is nobody else's, spare room too.
func TestMemory(t *testing.T) {
	row := []byte("one two three, and spare room")
	text := slices.Clone(row)
	x := exch.New()
	for i, data := range [][]byte{row[:3], row[4:7], row[8:13], row[:0]} {
		if e := x.Start(1, i, data, 0, 0); e != api.OK {
			t.Errorf("Start: %d", e)
		}
	}
	x.Start(1, 0, row[14:], 0, 0)
	if !slices.Equal(row, text) {
		t.Error("data is turned")
	}
	clear(row)
	const once = " 1.0one 1.1two 1.2three 1.3"
	first := x.Pass(60)
	if got := told(first); got != once+once {
		t.Errorf("sent:%s", got)
	}
	for i, s := range first {
		before := told(slices.Concat(first[:i], first[i+1:]))
		for k := range s.Data[:cap(s.Data)] {
			s.Data[:cap(s.Data)][k] = 255
		}
		if told(slices.Concat(first[:i], first[i+1:])) != before {
			t.Errorf("%d shares memory", i)
		}
	}
	for i := range first[:cap(first)] {
		first[:cap(first)][i] = exch.Sent{To: -1}
	}
	second := x.Pass(300)
	if got := told(second); got != once+once {
		t.Errorf("sent behind that:%s", got)
	}
	x.Pass(1000)
	x.Start(1, 0, text, 1000, 0)
	x.Clear()
	if got := told(second); got != once+once {
		t.Errorf("an answer is turned by later calls:%s", got)
	}
	if !slices.Equal(row, make([]byte, len(row))) {
		t.Error("what was handed in is turned behind the call")
	}
}
