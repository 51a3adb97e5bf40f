package watch_test

import (
	"math"
	"math/big"
	"math/rand"
	"runtime/debug"
	"testing"

	"outpost/api"
	"outpost/watch"
)

// P21.1: which number is fresher: by the numbers, and by the times.
func TestFresh(t *testing.T) {
	const half = 1 << 23
	for i, c := range []struct {
		a, b   int
		at, bt int64
		want   bool
	}{
		{1, 2, 0, 0, true}, {2, 1, 0, 0, false}, {2, 2, 0, 0, false}, {0, 0, 0, 0, false},
		{0, half - 1, 0, 0, true}, {0, half, 0, 0, false}, {0, half + 1, 0, 0, false}, {0, maxSeq, 0, 0, false}, {5, 5 + half - 1, 0, 0, true}, {5, 5 + half, 0, 0, false},
		{half - 1, 0, 0, 0, false}, {half, 0, 0, 0, false}, {half + 1, 0, 0, 0, true}, {maxSeq, 0, 0, 0, true}, {maxSeq, half - 2, 0, 0, true}, {maxSeq, half - 1, 0, 0, false}, {maxSeq, half, 0, 0, false},
		// By the times.
		{2, 1, 0, 128, false}, {2, 1, 0, 129, true}, {2, 2, 100, 228, false}, {2, 2, 100, 229, true}, {2, 1, 129, 0, false}, {1, 2, 129, 0, true}, {1, 2, 1000, 0, true}, {2, 2, 0, maxTicks, true},
		// Times as they count.
		{2, 1, -1000, 128, false}, {2, 1, -1000, 129, true}, {2, 1, -1000, -1, false}, {2, 1, math.MinInt64, 0, false}, {2, 1, math.MinInt64, math.MaxInt64, true},
		{2, 1, maxTicks, maxTicks + 1000, false}, {2, 1, maxTicks, math.MaxInt64, false}, {2, 1, maxTicks - 128, math.MaxInt64, false}, {2, 1, maxTicks - 129, maxTicks + 1, true}, {2, 1, math.MaxInt64, math.MaxInt64, false}, {2, 1, math.MaxInt64, math.MinInt64, false}, {2, 1, math.MaxInt64 - 1000, math.MaxInt64, false},
		// Of the numbers the lowest 24 bits.
		{1 << 24, 1, 0, 0, true}, {1 << 24, 1<<24 - 1, 0, 0, false}, {0, 1 << 24, 0, 0, false}, {maxSeq, 1 << 24, 0, 0, true}, {-1, 0, 0, 0, true}, {0, -1, 0, 0, false}, {-2, -1, 0, 0, true}, {-1, maxSeq, 0, 0, false},
		{1<<40 + 1, 2, 0, 0, true}, {1, 1<<40 + 1<<24 + 2, 0, 0, true}, {math.MaxInt, math.MinInt, 0, 0, true}, {math.MinInt, math.MaxInt, 0, 0, false}, {math.MinInt, 1, 0, 0, true},
	} {
		if watch.Fresh(c.a, c.b, c.at, c.bt) != c.want {
			t.Errorf("case %d: %t", i, !c.want)
		}
	}
}

// fresh is what Fresh is to answer, written otherwise: by how much b is ahead of a, round the circle of the numbers.
func fresh(a, b int, at, bt int64) bool {
	circle := big.NewInt(1 << 24)
	ahead := new(big.Int).Sub(big.NewInt(int64(b)), big.NewInt(int64(a)))
	ahead.Mod(ahead, circle)
	near := ahead.Sign() > 0 && ahead.Cmp(big.NewInt(1<<23)) < 0
	late := new(big.Int).Sub(bound(bt), bound(at))
	return near || late.Cmp(big.NewInt(128)) > 0
}

// bound is a time as it counts.
func bound(at int64) *big.Int {
	switch n := big.NewInt(at); {
	case n.Sign() < 0:
		return new(big.Int)
	case n.BitLen() > 41 || n.BitLen() == 41 && n.TrailingZeroBits() < 40:
		return new(big.Int).Lsh(big.NewInt(1), 40)
	default:
		return n
	}
}

// P21.1: all that lies about the bounds, and anything else.
func TestFreshAgainstAModel(t *testing.T) {
	r := rand.New(rand.NewSource(23))
	someNumber := func() int {
		switch r.Intn(4) {
		case 0:
			return int(r.Uint64())
		case 1:
			return r.Intn(9) - 4
		}
		return []int{0, 1 << 22, 1 << 23, 3 << 22, 1 << 24, 1 << 25, -1 << 23, -1 << 24, math.MaxInt - 9, math.MinInt + 9}[r.Intn(10)] + r.Intn(9) - 4
	}
	someTime := func() int64 {
		switch r.Intn(4) {
		case 0:
			return int64(r.Uint64())
		case 1:
			return int64(r.Intn(300)) - 20
		}
		return []int64{0, 128, 1000, maxTicks, maxTicks - 128, math.MaxInt64 - 200, math.MinInt64 + 200}[r.Intn(7)] + int64(r.Intn(7)) - 3
	}
	met := map[bool]int{}
	for range 300000 {
		a, b, at := someNumber(), someNumber(), someTime()
		bt := someTime()
		if r.Intn(2) == 0 {
			bt = at
		}
		want := fresh(a, b, at, bt)
		met[want]++
		if watch.Fresh(a, b, at, bt) != want {
			t.Fatalf("Fresh of %d, %d, %d, %d: %t", a, b, at, bt, !want)
		}
	}
	if met[true] < 50000 || met[false] < 50000 {
		t.Errorf("%v", met)
	}
}

// P21.1, P21.3: numbers go from 0 on, 1 more each time, and 0 again behind the last one; each is fresher than the one ahead.
func TestNumbers(t *testing.T) {
	x := watch.New()
	adds(t, x, api.OK, Watch{Val: num(0)}, Watch{Server: 2, Cond: Cond{PMax: 1 << 24, HasMax: true}, Val: num(0)})
	// So many calls leave much behind, none of it for long.
	defer debug.SetGCPercent(debug.SetGCPercent(4000))
	last, at, vals := 0, int64(0), nums(0)
	for now := int64(1); now <= 1<<24+3; now++ {
		vals[0].N = now
		due := x.Due(vals, now)
		w := due[0]
		if w.Seq != int(now%(1<<24)) || !watch.Fresh(last, w.Seq, at, w.At) || !watch.Fresh(last, w.Seq, 0, 0) || watch.Fresh(w.Seq, last, 0, 0) || len(due) != 1 && now != 1<<24 {
			t.Fatalf("at %d: %v behind %d", now, due, last)
		}
		last, at = w.Seq, w.At
	}
	if all := x.All(); all[0].Seq != 3 || all[1].Seq != 1 || all[1].At != 1<<24 {
		t.Errorf("All: %v", all)
	}
}
