package journal_test

import (
	"bytes"
	"math/rand"
	"slices"
	"testing"

	"outpost/api"
	"outpost/flash"
	"outpost/journal"
	"outpost/part"
)

// call is a Put, or (without a value) a Drop.
type call struct {
	key int
	val []byte
}

func (c call) of(j *journal.Journal) api.Errno {
	if c.val == nil {
		return j.Drop(c.key)
	}
	return j.Put(c.key, c.val)
}

// kept are a journal's values, by key; nil where there is none.
func kept(j *journal.Journal) [32]string {
	var all [32]string
	for _, key := range j.Keys() {
		val, _ := j.Get(key)
		all[key] = "=" + string(val)
	}
	return all
}

// behind is what is kept behind a call.
func (c call) behind(all [32]string) [32]string {
	all[c.key] = ""
	if c.val != nil {
		all[c.key] = "=" + string(c.val)
	}
	return all
}

// calls are such as lead to many moves.
func calls(r *rand.Rand, n int) []call {
	all := make([]call, n)
	for i := range all {
		all[i] = call{r.Intn(4) * 9, make([]byte, r.Intn(12))}
		r.Read(all[i].val)
		if r.Intn(4) == 0 {
			all[i].val = nil
		}
	}
	return all
}

// run calls till the power goes: what is kept behind the last call that is answered, and behind the one that was cut.
func run(j *journal.Journal, all []call) (sure, perhaps [32]string) {
	for _, c := range all {
		perhaps = c.behind(sure)
		switch e := c.of(j); e {
		case api.ErrDown:
			return sure, perhaps
		case api.OK:
			sure = perhaps
		}
	}
	return sure, sure
}

// P5.2: wherever the power goes, each value that was put is there, and none that was dropped; of the call that was cut either.
func TestCutsOfCalls(t *testing.T) {
	for seed := range 6 {
		all := calls(rand.New(rand.NewSource(int64(seed))), 40)
		for cut := 0; ; cut++ {
			f, a, b := groups(t, 16, 5, 5)
			j := opened(t, a, b)
			f.Cut(cut)
			sure, perhaps := run(j, all)
			if !f.Down() {
				if j.Epoch() < 4 {
					t.Fatal("too few moves")
				}
				break
			}
			for _, c := range all[:3] {
				expect(t, "while it is down", c.of(j), api.ErrDown)
			}
			f.Restore()
			k := opened(t, a, b)
			got := kept(k)
			if got != sure && got != perhaps {
				t.Fatalf("seed %d, cut %d: %q, want %q or %q", seed, cut, got, sure, perhaps)
			}
			image, turned := f.Image(), f.Turned()
			again := opened(t, a, b)
			if kept(again) != got || again.Epoch() != k.Epoch() || again.Room() != k.Room() || f.Turned() != turned || !bytes.Equal(f.Image(), image) {
				t.Fatalf("seed %d, cut %d: opened twice: %q", seed, cut, kept(again))
			}
			for i, c := range all { // and it goes on
				if e := c.of(k); e != api.OK && e != api.ErrNone {
					t.Fatalf("seed %d, cut %d, call %d: %d", seed, cut, i, e)
				}
			}
		}
	}
}

// P5.2: a record counts as soon as its mark is there, and not before.
func TestCutsOfARecord(t *testing.T) {
	for cut := range 10 {
		f, a, b := groups(t, 64, 1, 1)
		j := opened(t, a, b)
		j.Put(3, []byte("x"))
		f.Cut(cut)
		e := j.Put(3, []byte("ab"))
		expect(t, "down", e == api.ErrDown, cut < 9)
		f.Restore()
		has(t, "turned", f, group(64, 0, 1, put(3, 'x'), put(3, 'a', 'b')[:cut]), ones(64))
		k := opened(t, a, b)
		want := map[int]string{3: "x"}
		if cut == 9 {
			want[3] = "ab"
		}
		holds(t, "opened anew", k, want)
		expect(t, "torn", k.Epoch() == 2, cut > 0 && cut < 9)
	}
}

// P5.1, P5.2: a move is written in its order: cleared, each record and its mark, by rising keys, the epoch, the mark.
func TestCutsOfAMove(t *testing.T) {
	first := group(64, 0, 300, put(9, 'n'), drop(9), put(8, 'e'), put(9, 'x'), put(2))
	old := bytes.Repeat([]byte{6}, 64)
	steps := slices.Concat(put(2, []byte("twice as long")...), put(8, 'e'), put(9, 'x'), []byte{45, 1, 0, 0}) // 301
	for cut := range 64 + len(steps) + 2 {
		f, a, b := groups(t, 64, 1, 1)
		f.Load(slices.Concat(old, first))
		j := opened(t, a, b)
		expect(t, "room", j.Room(), 64-8-8-7-8-8-7)
		f.Cut(cut)
		e := j.Put(2, []byte("twice as long"))
		expect(t, "down", e == api.ErrDown, cut <= 64+len(steps))
		f.Restore()
		want := slices.Clone(old)
		copy(want, ones(min(cut, 64)))
		if cut > 64 {
			n := min(cut-64, len(steps)-4)
			copy(want[8:], steps[:n])
			copy(want[1:], steps[n:][:min(max(cut-64-len(steps)+4, 0), 4)])
		}
		if cut == 64+len(steps)+1 {
			want[0] = 0
		}
		has(t, "turned", f, want, first)
		k := opened(t, a, b)
		value := map[bool]string{true: "twice as long"}[e == api.OK]
		holds(t, "opened anew", k, map[int]string{2: value, 8: "e", 9: "x"})
	}
}

// P5.3: the power goes while it is made anew: it is made anew by the next Open.
func TestCutsOfTheFirstOpen(t *testing.T) {
	for cut := range 64 + 6 {
		f, a, b := groups(t, 32, 2, 2)
		junk := bytes.Repeat([]byte{3}, 128)
		f.Load(junk)
		f.Cut(cut)
		j, e := journal.Open(a, b)
		if (e == api.ErrDown) != (cut < 69) || (j == nil) != (cut < 69) {
			t.Errorf("cut %d: %v, %d", cut, j, e)
		}
		f.Restore()
		want := slices.Clone(junk[:64])
		copy(want, ones(min(cut, 64)))
		copy(want[1:], []byte{1, 0, 0, 0}[:min(max(cut-64, 0), 4)])
		if cut == 69 {
			want[0] = 0
		}
		has(t, "turned", f, want, junk[:64])
		k := opened(t, a, b)
		expect(t, "epoch", k.Epoch(), uint32(1))
		has(t, "made anew", f, group(64, 0, 1), junk[:64])
	}
}

// P5.3: the power goes while a torn one is opened, again and again: what counts stays as it is, and the last Open has it.
func TestCutsOfOpen(t *testing.T) {
	torn := group(64, 0, 5, put(4, 'a'), put(1, 'b'), put(4, 'c', 'd'), []byte{1, 9, 7})
	for _, other := range [][]byte{ones(64), group(64, 0, 4, put(1, 'x')), bytes.Repeat([]byte{0x10}, 64)} {
		for cut := 0; ; cut++ {
			f, a, b := groups(t, 32, 2, 2)
			f.Load(slices.Concat(torn, other))
			f.Cut(cut)
			j, e := journal.Open(a, b)
			if e == api.OK {
				expect(t, "a move's bytes", cut, 64+8+9+5)
				break
			}
			if e != api.ErrDown || j != nil {
				t.Fatalf("cut %d: %v, %d", cut, j, e)
			}
			second := cut * 7 % 90
			f.Restore()
			f.Cut(second)
			journal.Open(a, b)
			f.Restore()
			if !bytes.Equal(f.Image()[:64], torn) {
				t.Fatalf("cuts %d, %d: what counts is turned: %v", cut, second, f.Image())
			}
			k := opened(t, a, b)
			holds(t, "opened", k, map[int]string{1: "b", 4: "cd"})
			expect(t, "epoch", k.Epoch(), uint32(6))
			has(t, "moved", f, torn, group(64, 0, 6, put(1, 'b'), put(4, 'c', 'd')))
		}
	}
}

// P5.2, P5.3: losses of power one behind the other, in calls and while it is opened.
func TestManyCuts(t *testing.T) {
	for seed := range 60 {
		r := rand.New(rand.NewSource(int64(seed)))
		f, a, b := groups(t, 16+r.Intn(20), 4, 4)
		var sure [32]string
		j := opened(t, a, b)
		for range 60 {
			f.Cut(r.Intn(150))
			for !f.Down() {
				c := calls(r, 1)[0]
				perhaps := c.behind(sure)
				e := c.of(j)
				if e == api.OK {
					sure = perhaps
				}
				if e == api.OK || e == api.ErrNone || e == api.ErrFull {
					continue
				}
				if e != api.ErrDown {
					t.Fatalf("seed %d: %d", seed, e)
				}
				j = reopened(t, r, f, a, b)
				if got := kept(j); got == perhaps {
					sure = perhaps
				} else if got != sure {
					t.Fatalf("seed %d: %q, want %q or %q", seed, got, sure, perhaps)
				}
				break
			}
		}
	}
}

// reopened is a journal that is opened anew, though the power goes meanwhile, some times.
func reopened(t *testing.T, r *rand.Rand, f *flash.Flash, a, b *part.Part) *journal.Journal {
	t.Helper()
	for range r.Intn(4) {
		f.Restore()
		f.Cut(r.Intn(100))
		j, e := journal.Open(a, b)
		if e != api.OK && e != api.ErrDown || (j == nil) != (e != api.OK) {
			t.Fatalf("Open: %v, %d", j, e)
		}
	}
	f.Restore()
	return opened(t, a, b)
}
