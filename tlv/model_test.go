package tlv_test

import (
	"encoding/binary"
	"math/rand"
	"strings"
	"testing"

	"outpost/api"
	"outpost/tlv"
)

// item is one of a list, and how deep it lies.
type item struct {
	kind, id, depth int
	val             string
}

// flat is a list with all that is in it, in one row.
func flat(ts []Tlv, depth int) []item {
	var all []item
	for _, x := range ts {
		all = append(all, item{x.Kind, x.ID, depth, string(x.Val)})
		all = append(all, flat(x.Kids, depth+1)...)
	}
	return all
}

// allowed tells which kinds may stand where: what is around, and then the kind.
var allowed = map[string]bool{"0": true, "2": true, "3": true, "02": true, "03": true, "021": true, "21": true}

// model is what Read is to answer, in one row, written otherwise: the bytes are gone through once, with the ends of those around.
func model(b []byte) ([]item, api.Errno) {
	var all []item
	around, ends := "", []int{len(b)}
	for at := 0; ; {
		for len(ends) > 1 && at == ends[len(ends)-1] {
			ends, around = ends[:len(ends)-1], around[:len(around)-1]
		}
		end := ends[len(ends)-1]
		if at == end {
			return all, api.OK
		}
		kind := string("0123"[b[at]/64])
		if !allowed[around+kind] {
			return nil, api.ErrForm
		}
		idBytes, sizeBytes := 1+int(b[at]/32%2), int(b[at]/8%4)
		if at+1+idBytes+sizeBytes > end {
			return nil, api.ErrForm
		}
		if len(all) >= 64 {
			return nil, api.ErrMany
		}
		id := binary.BigEndian.Uint16(append(make([]byte, 2-idBytes), b[at+1:at+1+idBytes]...))
		size := binary.BigEndian.Uint32(append(make([]byte, 4-sizeBytes), b[at+1+idBytes:at+1+idBytes+sizeBytes]...))
		if sizeBytes == 0 {
			size = uint32(b[at] % 8)
		}
		at += 1 + idBytes + sizeBytes
		if size >= 1<<16 || at+int(size) > end {
			return nil, api.ErrForm
		}
		it := item{kind: int(kind[0] - '0'), id: int(id), depth: len(ends) - 1}
		if kind == "0" || kind == "2" {
			around, ends = around+kind, append(ends, at+int(size))
		} else {
			it.val = string(b[at : at+int(size)])
			at += int(size)
		}
		all = append(all, it)
	}
}

// sameItems holds two rows against each other.
func sameItems(a, b []item) bool {
	if len(a) != len(b) {
		return false
	}
	for i := range a {
		if a[i] != b[i] {
			return false
		}
	}
	return true
}

// asModel holds Read against the model; what is read is right, is written in no more bytes, and read again as the same (P15.2).
func asModel(t *testing.T, b []byte) api.Errno {
	t.Helper()
	want, wrong := model(b)
	ts, e := tlv.Read(b)
	if !sameItems(flat(ts, 0), want) || e != wrong {
		t.Fatalf("Read of %x: %v, %d, want %v, %d", b, ts, e, want, wrong)
	}
	if e != api.OK {
		return e
	}
	short, e := tlv.Write(ts)
	if !tlv.Right(ts) || e != api.OK || len(short) > len(b) {
		t.Fatalf("%x is written as %x, %d, right: %t", b, short, e, tlv.Right(ts))
	}
	if again, e := tlv.Read(short); !same(again, ts) || !tlv.Same(again, ts) || e != api.OK {
		t.Fatalf("%x is written as %x, and read as %v, %d", b, short, again, e)
	}
	return api.OK
}

// P15.1, P15.2: all of up to two bytes, and of up to six with all first bytes of one, and of one in it or behind it.
func TestShortBytes(t *testing.T) {
	asModel(t, nil)
	some := []byte{0, 1, 3, 0x40, 0x41, 0x80, 0xc0, 0xc1, 0xe0, 0xff}
	for a := range 256 {
		asModel(t, []byte{byte(a)})
		for b := range 256 {
			asModel(t, []byte{byte(a), byte(b)})
			for _, c := range some {
				asModel(t, []byte{byte(a), 0, byte(b), c})
				asModel(t, []byte{byte(a), 0, c, byte(b), 0})
				asModel(t, []byte{byte(a), 0, 3, byte(b), c, 0})
			}
		}
	}
}

// wide is a head in as many bytes as it is told, for an ID and a size that have room there.
func wide(kind, id, size, idBytes, sizeBytes, low int) string {
	first := kind<<6 | (idBytes-1)<<5 | sizeBytes<<3 | low
	if sizeBytes == 0 {
		first += size
	}
	b := []byte{byte(first)}
	b = append(b, binary.BigEndian.AppendUint16(nil, uint16(id))[2-idBytes:]...)
	return string(append(b, binary.BigEndian.AppendUint32(nil, uint32(size))[4-sizeBytes:]...))
}

// written is a list as bytes, each head the shortest of all that tell it: what Write is to answer; or each one of any length that does, if r is there.
func written(ts []Tlv, r *rand.Rand) string {
	var all strings.Builder
	for _, x := range ts {
		data := string(x.Val) + written(x.Kids, r)
		var heads []string
		for _, idBytes := range []int{1, 2} {
			for sizeBytes, most := range []int{7, 255, 65535, 1<<24 - 1} {
				if x.ID < 1<<(8*idBytes) && len(data) <= most {
					low := 0
					if r != nil && sizeBytes > 0 {
						low = r.Intn(8)
					}
					heads = append(heads, wide(x.Kind, x.ID, len(data), idBytes, sizeBytes, low))
				}
			}
		}
		head := heads[0]
		for _, h := range heads {
			if len(h) < len(head) {
				head = h
			}
		}
		if r != nil {
			head = heads[r.Intn(len(heads))]
		}
		all.WriteString(head + data)
	}
	return all.String()
}

// random is a list that is right, of up to as many in all as are left.
func random(r *rand.Rand, around string, left *int) []Tlv {
	ids := []int{0, 1, 7, 127, 128, 255, 256, 257, 300, 32768, 65535}
	var ts []Tlv
	for range r.Intn(6) {
		kind := r.Intn(4)
		if !allowed[around+string("0123"[kind])] {
			continue
		}
		if *left == 0 {
			break
		}
		*left--
		x := Tlv{Kind: kind, ID: ids[r.Intn(len(ids))]}
		if kind == 0 || kind == 2 {
			x.Kids = random(r, around+string("0123"[kind]), left)
		} else {
			x.Val = make([]byte, []int{0, 1, r.Intn(9), r.Intn(9), r.Intn(30), 250 + r.Intn(10)}[r.Intn(6)])
			r.Read(x.Val)
		}
		ts = append(ts, x)
	}
	return ts
}

// P15.1, P15.2: lists that are right are written as the model says, and read as they are, be their heads as long as may be.
func TestRandomLists(t *testing.T) {
	r := rand.New(rand.NewSource(15))
	deep := 0
	for range 5000 {
		left := 64
		ts := random(r, "", &left)
		both(t, written(ts, nil), ts...)
		if !tlv.Same(ts, ts) {
			t.Fatalf("%v isn't the same as itself", ts)
		}
		long := []byte(written(ts, r))
		reads(t, string(long), ts, api.OK)
		asModel(t, long)
		for _, it := range flat(ts, 0) {
			deep = max(deep, it.depth)
		}
		if t.Failed() {
			t.FailNow()
		}
	}
	if deep != 2 {
		t.Errorf("no list was deeper than %d", deep)
	}
}

// P15.1, P15.2: right bytes with some turned, taken away or laid in, are read as the model says.
func TestRandomBytes(t *testing.T) {
	r := rand.New(rand.NewSource(15))
	told := map[api.Errno]int{}
	for range 40000 {
		var b []byte
		for range []int{1, 1, 1, 2, 20}[r.Intn(5)] { // the last ones have too many
			left := 64
			b = append(b, written(random(r, "", &left), r)...)
		}
		for range r.Intn(3) {
			at := r.Intn(len(b) + 1)
			switch {
			case at == len(b):
				b = append(b, byte(r.Intn(256)))
			case r.Intn(2) == 0:
				b[at] ^= 1 << r.Intn(8)
			default:
				b = append(b[:at], b[at+r.Intn(2):]...)
			}
		}
		told[asModel(t, b)]++
	}
	for _, e := range []api.Errno{api.OK, api.ErrForm, api.ErrMany} {
		if told[e] < 1000 {
			t.Errorf("%d was answered %d times alone", e, told[e])
		}
	}
}

// isRight tells whether a list is right, but for how many there are, in the document's words.
func isRight(ts []Tlv, around string) bool {
	for _, x := range ts {
		if x.Kind < 0 || x.Kind > 3 || !allowed[around+string("0123"[x.Kind])] || x.ID < 0 || x.ID > 65535 {
			return false
		}
		if x.Kind%2 == 1 && len(x.Kids) != 0 || x.Kind%2 == 0 && len(x.Val) != 0 {
			return false
		}
		if !isRight(x.Kids, around+string("0123"[x.Kind])) {
			return false
		}
	}
	return true
}

// anyList is a list that may be right or not.
func anyList(r *rand.Rand, depth int) []Tlv {
	var ts []Tlv
	for range r.Intn(3) {
		x := Tlv{Kind: []int{0, 2, 2, 1}[depth], ID: r.Intn(300)} // what most often may stand there
		if r.Intn(4) == 0 {
			x.Kind = r.Intn(4)
		}
		if r.Intn(60) == 0 {
			x.Kind = []int{-1, 4}[r.Intn(2)]
		}
		if x.Kind%2 == 1 && r.Intn(10) > 0 || r.Intn(30) == 0 {
			x.Val = make([]byte, r.Intn(3))
		}
		if depth < 3 && (x.Kind%2 == 0 || r.Intn(10) == 0) {
			x.Kids = anyList(r, depth+1)
		}
		if r.Intn(60) == 0 {
			x.ID = []int{-1, 65535, 65536}[r.Intn(3)]
		}
		ts = append(ts, x)
	}
	return ts
}

// P15.1: Right, Write and Same of any lists.
func TestAnyLists(t *testing.T) {
	r := rand.New(rand.NewSource(15))
	told := map[bool]int{}
	last := []Tlv(nil)
	for range 50000 {
		ts := anyList(r, 0)
		want := isRight(ts, "")
		told[want]++
		b, e := tlv.Write(ts)
		if tlv.Right(ts) != want || (e == api.OK) != want || !want && (e != api.ErrArg || len(b) != 0) || want && string(b) != written(ts, nil) {
			t.Fatalf("%v: %t, written as %x, %d, want %t", ts, tlv.Right(ts), b, e, want)
		}
		if tlv.Same(ts, last) != same(ts, last) || !tlv.Same(ts, ts) {
			t.Fatalf("Same of %v, %v: %t", ts, last, tlv.Same(ts, last))
		}
		last = ts
	}
	if told[true] < 10000 || told[false] < 10000 {
		t.Errorf("right and not: %v", told)
	}
}
