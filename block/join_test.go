package block_test

import (
	"bytes"
	"math"
	"math/rand"
	"slices"
	"testing"

	"outpost/api"
	"outpost/block"
)

// step is a Put, what it is to answer, and how many bytes have come behind it.
type step struct {
	b    Block
	n    int
	last bool
	e    api.Errno
	got  int
}

// goes holds the answers to puts, and what has come, which is always the body's beginning: the data of a block are the body's bytes.
func goes(t *testing.T, what string, most int, steps ...step) {
	t.Helper()
	j := block.NewJoin(most)
	body := text(1 << 12)
	for i, s := range steps {
		at := 0
		if s.e == api.OK {
			at = s.b.Num * s.b.Size
		}
		last, e := j.Put(s.b, body[at:at+s.n])
		if last != s.last || e != s.e || j.Got() != s.got || !bytes.Equal(j.Bytes(), body[:s.got]) {
			t.Errorf("%s, step %d: %t, %d, %d bytes, want %v", what, i, last, e, j.Got(), s)
		}
	}
}

// P10.1: a body of nothing is there ahead of all, and is put together block by block.
func TestPut(t *testing.T) {
	if j := block.NewJoin(5); j.Got() != 0 || len(j.Bytes()) != 0 {
		t.Error("a new one isn't of nothing")
	}
	goes(t, "one", 100, step{Block{0, false, 64}, 5, true, api.OK, 5})
	goes(t, "one that is full", 100, step{Block{0, false, 64}, 64, true, api.OK, 64})
	goes(t, "an empty one", 100, step{Block{0, false, 64}, 0, true, api.OK, 0})
	goes(t, "three", 100,
		step{Block{0, true, 32}, 32, false, api.OK, 32}, step{Block{1, true, 32}, 32, false, api.OK, 64}, step{Block{2, false, 32}, 1, true, api.OK, 65})
	goes(t, "a last one of nothing", 100, step{Block{0, true, 32}, 32, false, api.OK, 32}, step{Block{1, false, 32}, 0, true, api.OK, 32})
	goes(t, "other sizes", 4096,
		step{Block{0, true, 64}, 64, false, api.OK, 64}, step{Block{4, true, 16}, 16, false, api.OK, 80}, step{Block{5, true, 16}, 16, false, api.OK, 96},
		step{Block{3, true, 32}, 32, false, api.OK, 128}, step{Block{1, false, 128}, 100, true, api.OK, 228})
	goes(t, "block 0 begins anew", 100,
		step{Block{0, true, 32}, 32, false, api.OK, 32}, step{Block{1, true, 32}, 32, false, api.OK, 64}, step{Block{0, true, 16}, 16, false, api.OK, 16},
		step{Block{0, false, 64}, 7, true, api.OK, 7}, step{Block{0, true, 64}, 64, false, api.OK, 64}, step{Block{1, false, 64}, 3, true, api.OK, 67})
}

// P10.1, P1: behind each error nothing has come, and only block 0 goes on.
func TestErrorsOfPut(t *testing.T) {
	begun := []step{{Block{0, true, 32}, 32, false, api.OK, 32}, {Block{1, true, 32}, 32, false, api.OK, 64}}
	ended := append(begun[:2:2], step{Block{2, false, 32}, 4, true, api.OK, 68})
	for _, c := range []struct {
		what  string
		b     Block
		n     int
		wrong api.Errno
	}{
		{"a size", Block{2, false, 48}, 1, api.ErrArg},
		{"a size of nothing", Block{0, false, 0}, 0, api.ErrArg},
		{"a size below nothing", Block{-2, false, -32}, 0, api.ErrArg},
		{"block 0 of a wrong size", Block{0, true, 2048}, 2048, api.ErrArg},
		{"a number below 0", Block{-1, false, 32}, 0, api.ErrArg},
		{"a number that is too great", Block{1 << 20, false, 32}, 0, api.ErrArg},
		{"a number that would fit in 64 bits", Block{1<<59 + 2, false, 32}, 0, api.ErrArg},
		{"the greatest number", Block{math.MaxInt, false, 32}, 0, api.ErrArg},
		{"a size, another number, too much data", Block{7, true, 8}, 2000, api.ErrArg},
		{"one again", Block{1, true, 32}, 32, api.ErrNone},
		{"one later", Block{3, true, 32}, 32, api.ErrNone},
		{"one of a greater size", Block{2, true, 64}, 64, api.ErrNone},
		{"one of a smaller size", Block{2, true, 16}, 16, api.ErrNone},
		{"the last number", Block{1<<20 - 1, false, 1024}, 0, api.ErrNone},
		{"another number, too much data", Block{3, false, 32}, 2000, api.ErrNone},
		{"block 0, more, of too few", Block{0, true, 32}, 31, api.ErrForm},
		{"block 0, more, of too many", Block{0, true, 32}, 33, api.ErrForm},
		{"block 0, more, of none", Block{0, true, 32}, 0, api.ErrForm},
		{"block 0, the last, of too many", Block{0, false, 32}, 33, api.ErrForm},
		{"too many by size and in all", Block{0, false, 32}, 2000, api.ErrForm},
		{"block 0, too few, but too many in all", Block{0, true, 1024}, 1023, api.ErrForm},
		{"block 0, too many in all", Block{0, false, 128}, 101, api.ErrLong},
		{"block 0, more, too many in all", Block{0, true, 128}, 128, api.ErrLong},
	} {
		for _, ahead := range [][]step{nil, begun, ended} {
			wrong := step{c.b, c.n, false, c.wrong, 0}
			none := []step{{Block{1, false, 32}, 3, false, api.ErrNone, 0}, {Block{2, false, 32}, 3, false, api.ErrNone, 0}, {Block{2, false, 31}, 3, false, api.ErrArg, 0}}
			goes(t, c.what, 100, slices.Concat(ahead, []step{wrong}, none, begun, []step{wrong, {Block{0, false, 16}, 5, true, api.OK, 5}})...)
		}
	}
	for what, s := range map[string]step{
		"more, of too few":      {Block{2, true, 32}, 31, false, api.ErrForm, 0},
		"more, of too many":     {Block{2, true, 32}, 33, false, api.ErrForm, 0},
		"the last, of too many": {Block{2, false, 32}, 33, false, api.ErrForm, 0},
		"too many by far":       {Block{2, false, 32}, 4000, false, api.ErrForm, 0},
		"too many in all":       {Block{1, false, 64}, 37, false, api.ErrLong, 0},
		"one more in all":       {Block{1, true, 64}, 64, false, api.ErrLong, 0},
	} {
		goes(t, what, 100, slices.Concat(begun, []step{s, {Block{2, false, 32}, 3, false, api.ErrNone, 0}}, begun)...)
	}
	goes(t, "as many as may be", 100, append(begun[:2:2], step{Block{1, false, 64}, 36, true, api.OK, 100})...)
}

// P10.1: behind the last one what has come is told till block 0, or an error, comes; no other one goes on.
func TestBehindTheLast(t *testing.T) {
	ended := []step{{Block{0, true, 32}, 32, false, api.OK, 32}, {Block{1, false, 32}, 32, true, api.OK, 64}}
	for _, s := range []step{
		{Block{2, true, 32}, 32, false, api.ErrNone, 0}, {Block{2, false, 32}, 0, false, api.ErrNone, 0}, {Block{1, false, 64}, 5, false, api.ErrNone, 0},
		{Block{1, false, 32}, 32, false, api.ErrNone, 0}, {Block{2, false, 33}, 0, false, api.ErrArg, 0},
		{Block{0, true, 64}, 64, false, api.OK, 64}, {Block{0, false, 16}, 2, true, api.OK, 2}, {Block{0, false, 16}, 17, false, api.ErrForm, 0},
	} {
		goes(t, "behind the last one", 1000, append(ended[:2:2], s)...)
	}
	goes(t, "behind a last one of nothing", 1000,
		step{Block{0, false, 32}, 0, true, api.OK, 0}, step{Block{1, false, 32}, 0, false, api.ErrNone, 0}, step{Block{0, false, 32}, 3, true, api.OK, 3})
	goes(t, "an end ahead of an error doesn't count", 1000, slices.Concat(ended, []step{{Block{5, false, 32}, 0, false, api.ErrNone, 0}}, ended)...)
}

// P10.1: most below 0 counts as 0, above 2^20 as that.
func TestMost(t *testing.T) {
	for _, most := range []int{0, -1, -1 << 40, math.MinInt} {
		goes(t, "of nothing", most,
			step{Block{0, false, 16}, 0, true, api.OK, 0}, step{Block{0, false, 16}, 1, false, api.ErrLong, 0}, step{Block{0, true, 16}, 16, false, api.ErrLong, 0})
	}
	goes(t, "of one", 1, step{Block{0, false, 16}, 1, true, api.OK, 1}, step{Block{0, false, 16}, 2, false, api.ErrLong, 0})
	full := text(1024)
	for _, most := range []int{1<<20 - 1, 1 << 20, 1<<20 + 1, 1 << 21, 1 << 40, math.MaxInt} {
		j := block.NewJoin(most)
		for num := range 1023 {
			if last, e := j.Put(Block{num, true, 1024}, full); last || e != api.OK || j.Got() != num*1024+1024 {
				t.Fatalf("most %d, block %d: %t, %d", most, num, last, e)
			}
		}
		last, e := j.Put(Block{1023, true, 1024}, full)
		if most < 1<<20 {
			if e != api.ErrLong || j.Got() != 0 {
				t.Errorf("most %d: %d, %d bytes", most, e, j.Got())
			}
			continue
		}
		if last || e != api.OK || j.Got() != 1<<20 {
			t.Errorf("most %d: %t, %d, %d bytes", most, last, e, j.Got())
		}
		if _, e := j.Put(Block{1024, false, 1024}, full[:1]); e != api.ErrLong || j.Got() != 0 || len(j.Bytes()) != 0 {
			t.Errorf("most %d, one more: %d, %d bytes", most, e, j.Got())
		}
	}
}

// P10.2: bodies that are cut into blocks, all of a size, and put together in order, are the same.
func TestCutAndPutTogether(t *testing.T) {
	lengths := []int{1<<20 - 1, 1 << 20}
	for n := range 2100 {
		lengths = append(lengths, n)
	}
	body := text(1 << 20)
	for _, size := range sizes {
		j := block.NewJoin(1 << 20)
		for _, n := range lengths {
			whole := false
			for num := 0; !whole; num++ {
				data, more, ok := block.Cut(body[:n], num, size)
				last, e := j.Put(Block{num, more, size}, data)
				if !ok || e != api.OK || last == more {
					t.Fatalf("%d bytes, block %d of %d: %t, %t, %d", n, num, size, ok, last, e)
				}
				whole = last
			}
			if j.Got() != n || !bytes.Equal(j.Bytes(), body[:n]) {
				t.Fatalf("%d bytes in blocks of %d are another body", n, size)
			}
		}
	}
}

// model is a body that is put together, written otherwise: its state is what a block has to say to go on.
type model struct {
	most, next int // next is -1 where only block 0 goes on
	body       []byte
}

func (m *model) put(b Block, data []byte) (bool, api.Errno) {
	e := api.OK
	if b.Num == 0 {
		m.next, m.body = 0, nil
	}
	if !slices.Contains(sizes, b.Size) || b.Num < 0 || b.Num > 1048575 {
		e = api.ErrArg
	} else if b.Num*b.Size != m.next {
		e = api.ErrNone
	} else if len(data) > b.Size || len(data) < b.Size && b.More {
		e = api.ErrForm
	} else if len(m.body)+len(data) > m.most {
		e = api.ErrLong
	}
	if e != api.OK {
		m.next, m.body = -1, nil
		return false, e
	}
	m.body = append(m.body, data...)
	m.next = len(m.body)
	if !b.More {
		m.next = -1
	}
	return !b.More, api.OK
}

// someBlock is one that mostly, but not always, goes on, and its data.
func someBlock(r *rand.Rand, m *model) (Block, []byte) {
	b := Block{More: r.Intn(5) > 0, Size: sizes[r.Intn(3)]}
	b.Num = len(m.body) / b.Size
	switch r.Intn(25) {
	case 0:
		b.Num = r.Intn(8)
	case 1:
		b.Num = wrongNums[r.Intn(len(wrongNums))]
	case 2:
		b.Size = wrongSizes[r.Intn(len(wrongSizes))]
	case 3:
		b.Num = 0
	}
	n := min(max(b.Size, 0), 2000)
	if !b.More {
		n = r.Intn(n + 1)
	}
	if r.Intn(20) == 0 {
		n = r.Intn(150)
	}
	data := make([]byte, n)
	r.Read(data)
	return b, data
}

// P10.1, P2: whatever blocks come, in whatever order.
func TestPutAgainstAModel(t *testing.T) {
	r := rand.New(rand.NewSource(12))
	met := map[api.Errno]int{}
	for range 3000 {
		most := r.Intn(400)
		j, m := block.NewJoin(most), &model{most: most, next: -1}
		for range 40 {
			b, data := someBlock(r, m)
			last, e := j.Put(b, data)
			wantLast, wrong := m.put(b, data)
			if last != wantLast || e != wrong || j.Got() != len(m.body) || !bytes.Equal(j.Bytes(), m.body) {
				t.Fatalf("%v with %d bytes: %t, %d, %d bytes, want %t, %d, %d", b, len(data), last, e, j.Got(), wantLast, wrong, len(m.body))
			}
			met[e]++
		}
	}
	for _, e := range []api.Errno{api.OK, api.ErrArg, api.ErrNone, api.ErrForm, api.ErrLong} {
		if met[e] < 1000 {
			t.Errorf("error %d was met %d times", e, met[e])
		}
	}
}

// P1: one that NewJoin didn't make panics as little: it is of nothing.
func TestZeroJoin(t *testing.T) {
	var j block.Join
	if last, e := j.Put(Block{0, false, 16}, nil); !last || e != api.OK {
		t.Errorf("an empty body: %t, %d", last, e)
	}
	if _, e := j.Put(Block{0, false, 16}, []byte("a")); e != api.ErrLong || j.Got() != 0 || len(j.Bytes()) != 0 {
		t.Errorf("one byte: %d", e)
	}
}
