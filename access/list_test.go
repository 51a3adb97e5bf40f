package access_test

import (
	"bytes"
	"math"
	"math/rand"
	"testing"

	"outpost/access"
)

// said is what a list says of each server, written otherwise: all at once, from the front.
func said(list []byte) map[int]int {
	says := map[int]int{}
	for i, b := range list {
		if i%2 == 1 {
			says[int(list[i-1])] = int(b % 32)
		}
	}
	return says
}

// P20.1: what a list says of a server, of all lists of a few bytes that matter, and longer ones.
func TestLists(t *testing.T) {
	check := func(list []byte, server int) {
		t.Helper()
		want, wantOK := said(list)[server]
		if n, ok := access.Lists(list, server); n != want || ok != wantOK {
			t.Errorf("Lists of %v, %d: %d, %t", list, server, n, ok)
		}
	}
	servers := []int{0, 1, 2, 3, 31, 33, 255, 256, 257, -1, -255, -256, math.MaxInt, math.MinInt}
	var list []byte
	var grow func(left int)
	grow = func(left int) {
		for _, s := range servers {
			check(list, s)
		}
		if left == 0 {
			return
		}
		for _, b := range []byte{0, 1, 2, 33, 255} {
			list = append(list, b)
			grow(left - 1)
			list = list[:len(list)-1]
		}
	}
	grow(5)
	r := rand.New(rand.NewSource(20))
	long := make([]byte, 100001)
	r.Read(long)
	for s := -300; s < 600; s++ {
		check(long[:r.Intn(700)], s)
		check(long, s)
	}
	for _, empty := range [][]byte{nil, {}, {1}} {
		if n, ok := access.Lists(empty, 1); n != 0 || ok {
			t.Errorf("Lists of %v: %d, %t", empty, n, ok)
		}
	}
}

// allows is what Allow is to answer, written otherwise.
func allows(list []byte, server, rights int) []byte {
	if server != int(byte(server)) {
		return list
	}
	var kept []byte
	for i := 1; i < len(list); i += 2 {
		if list[i-1] != byte(server) {
			kept = append(kept, list[i-1], list[i])
		}
	}
	return append(kept, byte(server), byte(rights)%32)
}

// P20.1: the lists that Allow answers, byte by byte.
func TestAllow(t *testing.T) {
	for i, c := range []struct {
		list           []byte
		server, rights int
		want           []byte
	}{
		{nil, 1, 3, []byte{1, 3}},
		{[]byte{7}, 1, 3, []byte{1, 3}},
		{[]byte{1}, 1, 3, []byte{1, 3}},
		{[]byte{1, 3}, 1, 5, []byte{1, 5}},
		{[]byte{1, 3, 2, 5, 1}, 1, 31, []byte{2, 5, 1, 31}},
		{[]byte{1, 3, 2, 5, 1, 7, 3, 1}, 1, 0, []byte{2, 5, 3, 1, 1, 0}},
		{[]byte{2, 1, 1, 2, 2, 9}, 2, 4, []byte{1, 2, 2, 4}},
		{[]byte{2, 255, 0, 1}, 0, 2, []byte{2, 255, 0, 2}},
		{[]byte{2, 1, 2, 3}, 255, 8, []byte{2, 1, 2, 3, 255, 8}},
		{nil, 1, 32, []byte{1, 0}}, {nil, 1, 255, []byte{1, 31}}, {nil, 1, -1, []byte{1, 31}}, {nil, 1, -16, []byte{1, 16}}, {nil, 1, math.MinInt, []byte{1, 0}}, {nil, 1, math.MaxInt, []byte{1, 31}}, {nil, 1, 256 + 5, []byte{1, 5}},
		{[]byte{1, 3, 2}, 256, 1, []byte{1, 3, 2}}, {[]byte{1, 3, 2}, -1, 1, []byte{1, 3, 2}}, {[]byte{1, 3}, 257, 1, []byte{1, 3}}, {[]byte{0, 3, 0, 3}, 256, 1, []byte{0, 3, 0, 3}}, {nil, -256, 1, nil}, {[]byte{1}, math.MaxInt, 1, []byte{1}}, {[]byte{1}, math.MinInt, 1, []byte{1}},
	} {
		if got := access.Allow(c.list, c.server, c.rights); !bytes.Equal(got, c.want) {
			t.Errorf("case %d: %v, want %v", i, got, c.want)
		}
	}
}

// P20.1, P20.3: what a list was made to say it says, of other servers what it said; all servers, all rights, lists of all sorts.
func TestWhatWasAllowed(t *testing.T) {
	r := rand.New(rand.NewSource(21))
	for server := -3; server < 260; server++ {
		for rights := -40; rights < 70; rights++ {
			list := make([]byte, r.Intn(30))
			for i := range list {
				list[i] = byte(r.Intn(8))
				switch r.Intn(6) {
				case 0:
					list[i] = byte(r.Intn(256))
				case 1:
					list[i] = byte(server)
				}
			}
			before := said(list)
			got := access.Allow(list, server, rights)
			if !bytes.Equal(got, allows(list, server, rights)) {
				t.Fatalf("Allow of %v, %d, %d: %v", list, server, rights, got)
			}
			for other := range 256 {
				want, wantOK := before[other]
				if other == server {
					want, wantOK = rights&31, true
				}
				if n, ok := access.Lists(got, other); n != want || ok != wantOK {
					t.Fatalf("%v, made to say %d of %d, says %d, %t of %d: %v", list, rights, server, n, ok, other, got)
				}
			}
		}
	}
}

// P20.1: a list may be long.
func TestALongList(t *testing.T) {
	long := bytes.Repeat([]byte{1, 3, 2, 5}, 1<<18)
	got := access.Allow(append(long, 9), 1, 7)
	if len(got) != len(long)/2+2 || !bytes.Equal(got[:len(long)/2], bytes.Repeat([]byte{2, 5}, 1<<18)) || !bytes.Equal(got[len(got)-2:], []byte{1, 7}) {
		t.Errorf("%d bytes", len(got))
	}
}
