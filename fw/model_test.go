package fw_test

import (
	"bytes"
	"crypto/sha256"
	"encoding/binary"
	"hash/crc32"
	"math/rand"
	"regexp"
	"slices"
	"strconv"
	"testing"
	"unicode/utf8"

	"outpost/api"
	"outpost/block"
	"outpost/image"
)

// model is the firmware object written otherwise: of what is delivered it has all bytes, and judges them anew at each block.
type model struct {
	state, result int
	uri           string
	active, next  []byte // the image that runs; in states 2 and 3 the one that is to run
	way           string // "push", "pull", or ""
	come          []byte
}

func (m *model) to(state, result int) { m.state, m.result = state, result }

func (m *model) giveUp(result int) {
	if m.state == 1 {
		m.to(0, result)
	}
	m.way, m.come = "", nil
}

func number(b []byte) int { return int(binary.LittleEndian.Uint32(b)) }

// judge is the result with which what has come fails, 0 if it doesn't.
func (m *model) judge(last bool) int {
	b := m.come
	if len(b) < 64 {
		if last {
			return 6
		}
		return 0
	}
	name := regexp.MustCompile(`^[a-z0-9._-]{1,16}\x00*$`)
	if string(b[:4]) != "OTPX" || number(b[60:]) != int(crc32.ChecksumIEEE(b[:60])) || !name.Match(b[12:28]) || number(b[8:]) > 1<<20 {
		return 6
	}
	size := 64 + number(b[8:])
	switch {
	case size > slotSize:
		return 2
	case len(b) > size || last && len(b) < size:
		return 5
	case last && sha256.Sum256(b[64:]) != [32]byte(b[28:60]):
		return 5
	case last && number(b[4:]) <= number(m.active[4:]):
		return 6
	}
	return 0
}

// take takes up data: the result with which that fails.
func (m *model) take(data []byte, last bool) int {
	m.come = slices.Concat(m.come, data)
	result := m.judge(last)
	if result != 0 {
		m.giveUp(result)
	} else if last {
		m.next = m.come
		m.to(2, 0)
		m.way, m.come = "", nil
	}
	return result
}

func (m *model) reset() int {
	if m.state == 3 {
		return 133
	}
	m.to(0, 0)
	m.way, m.come = "", nil
	return 68
}

func (m *model) push(b block.Block, data []byte) int {
	first := b.Num == 0
	if first && !b.More && len(data) == 0 {
		return m.reset()
	}
	if first && m.state == 1 {
		m.giveUp(4)
	}
	if first && m.state != 0 || !first && m.way != "push" {
		return 133
	}
	right := slices.Contains([]int{16, 32, 64, 128, 256, 512, 1024}, b.Size) && b.Num >= 0 && b.Num < 1<<20
	if !right || b.Num*b.Size != len(m.come) {
		m.giveUp(4)
		return 136
	}
	if len(data) > b.Size || b.More && len(data) != b.Size {
		m.giveUp(4)
		return 128
	}
	if first {
		m.to(1, 0)
		m.way = "push"
	}
	switch m.take(data, !b.More) {
	case 0:
		return map[bool]int{true: 95, false: 68}[b.More]
	case 2:
		return 141
	}
	return 128
}

func (m *model) setURI(s string) int {
	if s == "" {
		code := m.reset()
		if code == 68 {
			m.uri = ""
		}
		return code
	}
	if m.state != 0 {
		return 133
	}
	if len(s) > 100 || !utf8.ValidString(s) || regexp.MustCompile(`[\x00-\x1f\x7f]`).MatchString(s) {
		return 128
	}
	m.uri = s
	switch {
	case regexp.MustCompile(`^coap://[a-z0-9.-]+/`).MatchString(s):
		m.to(1, 0)
		m.way = "pull"
	case regexp.MustCompile(`^[a-z]+://`).MatchString(s) && !regexp.MustCompile(`^coap://`).MatchString(s):
		m.to(0, 9)
	default:
		m.to(0, 7)
	}
	return 68
}

func (m *model) wants() int {
	if m.way != "pull" {
		return -1
	}
	return len(m.come) / 64
}

func (m *model) pulled(b block.Block, data []byte) api.Errno {
	if m.way != "pull" || b.Num*64 != len(m.come) || b.Size != 64 || len(data) > 64 || b.More && len(data) != 64 {
		return api.ErrState
	}
	m.take(data, !b.More)
	return api.OK
}

func (m *model) lost(result int) {
	if m.way != "pull" {
		return
	}
	if result < 2 || result > 9 {
		result = 4
	}
	m.giveUp(result)
}

func (m *model) update() bool {
	if m.state != 2 {
		return false
	}
	m.to(3, 0)
	return true
}

func (m *model) boot() {
	m.giveUp(4)
	if m.state == 3 {
		m.active = m.next
		m.to(0, 1)
	}
}

// some are bytes that are to be delivered: mostly an image, of a version that is mostly later.
func some(r *rand.Rand, active int) []byte {
	img := made(uint32(max(0, active-1+r.Intn(6))), r.Intn(200))
	switch r.Intn(8) {
	case 0:
		img[r.Intn(len(img))] ^= 1 << r.Intn(8)
	case 1:
		img = img[:r.Intn(len(img))]
	case 2:
		img = append(img, make([]byte, 1+r.Intn(90))...)
	case 3:
		img = made(9999, slotSize-70+r.Intn(12))
	case 4:
		h := image.Head{Version: 9999, Size: slotSize - 70 + r.Intn(12), Name: "a"}
		head, _ := image.Write(h)
		img = append(head, make([]byte, r.Intn(100))...)
	}
	return img
}

// both are the object and its model, to which the same is done.
type both struct {
	d    *device
	u    up
	m    model
	todo []byte // what is being delivered
	num  int    // the block that comes next ..
	size int    // .. and its size
}

// block is the block that comes next, or one that is nearly that.
func (b *both) block(r *rand.Rand) (block.Block, []byte) {
	data, more, _ := block.Cut(b.todo, b.num, b.size)
	is := block.Block{Num: b.num, More: more, Size: b.size}
	b.num++
	switch r.Intn(25) {
	case 0:
		is.Num += r.Intn(3) - 1
	case 1:
		is.More = !is.More
	case 2:
		is.Size = []int{0, 16, 32, 64, 65, 128, 1024, 2048}[r.Intn(8)]
	case 3:
		data = data[:r.Intn(len(data)+1)]
	case 4:
		data = append(data, 1)
	case 5:
		is, data = block.Block{Size: 16}, nil
	}
	return is, data
}

// anew begins to deliver other bytes.
func (b *both) anew(r *rand.Rand, size int) {
	b.todo, b.num, b.size = some(r, number(b.m.active[4:])), 0, size
}

// step does something, and tells of what both answer.
func (b *both) step(r *rand.Rand) (what string, got, want int) {
	switch r.Intn(24) {
	case 0, 1:
		if b.m.state == 0 || r.Intn(4) == 0 {
			b.anew(r, 16<<r.Intn(7))
		}
		fallthrough
	case 2, 3, 4, 5, 6, 7, 8, 9, 10, 11:
		if b.m.way == "pull" && r.Intn(8) > 0 {
			is, data := b.block(r)
			return "Pulled", int(b.u.Pulled(is, data)), int(b.m.pulled(is, data))
		}
		is, data := b.block(r)
		return "Push", b.u.Push(is, data), b.m.push(is, data)
	case 12, 13, 14:
		uri := []string{"", "coap://h/x", "coap://h/x", "coap://h.1-/", "coap://h", "http://h/", "x", "a\x7f"}[r.Intn(8)]
		if b.m.state == 0 {
			b.anew(r, 64)
		}
		return "SetURI", b.u.SetURI(uri), b.m.setURI(uri)
	case 15:
		if r.Intn(2) == 0 {
			result := r.Intn(14) - 2
			b.u.Lost(result)
			b.m.lost(result)
		}
		return "Lost", 0, 0
	case 16, 17, 18:
		return "Update", bit(b.u.Update()), bit(b.m.update())
	case 19:
		if r.Intn(2) == 0 || b.m.state == 3 {
			b.u = b.d.boot()
			b.m.boot()
		}
	}
	return "boot", 0, 0
}

func bit(is bool) int {
	if is {
		return 1
	}
	return 0
}

// holds holds all that is told, and what is in the slots.
func (b *both) holds(what string) {
	t, u, m := b.u.t, b.u, b.m
	t.Helper()
	name, version := "", ""
	var kept []byte
	if m.state >= 2 {
		name, version = string(bytes.TrimRight(m.next[12:28], "\x00")), strconv.Itoa(number(m.next[4:]))
		kept = m.next[4:8]
	}
	u.is(what, m.state, m.result, kept...)
	u.wanted(what, m.wants())
	if u.URI() != m.uri || u.Name() != name || u.Version() != version || u.Method() != 2 {
		t.Errorf("%s: %q, %q, %q, want %q, %q, %q", what, u.URI(), u.Name(), u.Version(), m.uri, name, version)
	}
	if !u.s.Same(u.s.Active(), m.active) {
		t.Errorf("%s: another image is active", what)
	}
	if m.state >= 2 && !u.s.Same(u.s.Other(), m.next) {
		t.Errorf("%s: what was delivered isn't there", what)
	}
	if want := len(m.come); u.s.Got() != want && (want >= 64 || u.s.Got() != 0) {
		t.Errorf("%s: %d bytes are written of %d", what, u.s.Got(), want)
	}
}

// P23.1, P23.2, P23.3, P23.4, P2: whatever is called, in whatever order.
func TestAgainstAModel(t *testing.T) {
	seen := map[[4]int]int{} // how often a pair followed another one
	codes := map[int]int{}
	for seed := range 400 {
		r := rand.New(rand.NewSource(int64(seed)))
		d := newDevice(t, made(1, 3))
		b := &both{d: d, u: d.boot(), m: model{active: made(1, 3)}}
		b.anew(r, 64)
		for range 120 {
			before := [2]int{b.m.state, b.m.result}
			what, got, want := b.step(r)
			if got != want {
				t.Errorf("%s: %d, want %d", what, got, want)
			}
			b.holds(what)
			if t.Failed() {
				t.Fatalf("seed %d", seed)
			}
			seen[[4]int{before[0], before[1], b.m.state, b.m.result}]++
			if what == "Push" {
				codes[want]++
			}
		}
	}
	for _, way := range [][4]int{{0, 0, 1, 0}, {1, 0, 0, 0}, {1, 0, 0, 2}, {1, 0, 0, 3}, {1, 0, 0, 4}, {1, 0, 0, 5}, {1, 0, 0, 6}, {1, 0, 0, 7}, {1, 0, 0, 8}, {1, 0, 0, 9}, {1, 0, 2, 0}, {2, 0, 0, 0}, {2, 0, 3, 0}, {3, 0, 0, 1}, {0, 0, 2, 0}, {0, 0, 0, 7}, {0, 0, 0, 9}} {
		if seen[way] < 5 {
			t.Errorf("%v: %d times", way, seen[way])
		}
	}
	for _, code := range []int{68, 95, 128, 133, 136, 141} {
		if codes[code] < 20 {
			t.Errorf("code %d: %d times", code, codes[code])
		}
	}
}
