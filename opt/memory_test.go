package opt_test

import (
	"bytes"
	"testing"

	"outpost/api"
	"outpost/opt"
)

// vals are the values of options.
func vals(opts []api.Opt) [][]byte {
	var all [][]byte
	for _, x := range opts {
		all = append(all, x.Val)
	}
	return all
}

// turn turns every byte of a list, spare room too.
func turn(b []byte) {
	for i := range b[:cap(b)] {
		b[:cap(b)][i] ^= 255
	}
}

// apart holds that no list of an answer shares a byte with another, or with one that was handed in, spare room too.
func apart(t *testing.T, what string, answer, given [][]byte) {
	t.Helper()
	for i, x := range answer {
		var others, before [][]byte
		for k, y := range append(answer[:len(answer):len(answer)], given...) {
			if k != i {
				others = append(others, y[:cap(y)])
				before = append(before, bytes.Clone(y[:cap(y)]))
			}
		}
		turn(x)
		for k := range others {
			if !bytes.Equal(others[k], before[k]) {
				t.Errorf("%s: list %d shares memory", what, i)
			}
		}
		turn(x)
	}
}

// given are options that aren't sorted, whose values lie in one row of bytes, each with the others in its spare room, and with options in their own spare room.
func given() (opts []api.Opt, all, row []byte) {
	row = []byte("0123456789abcdefghijklmnopqrstuvwxyz")
	room := []api.Opt{{Num: 3, Val: row[:2]}, {Num: 12, Val: row[9:9]}, {Num: 11, Val: row[2:5]}, {Num: 11, Val: row[3:8]}, {Num: 11, Val: row[2:5]}, {Num: 60, Val: row[8:30]}, {Num: 7, Val: row[:3]}, {Num: 80}}
	return room[:6], row[5:8], row
}

// options is a call's answer as options: lists of bytes are those of number 0.
func options(lists ...[]byte) []api.Opt {
	var opts []api.Opt
	for _, b := range lists {
		opts = append(opts, api.Opt{Val: b})
	}
	return opts
}

// P8.3: arguments stay, behind their lengths too; answers are new memory, spare room too, and hang on no argument that is written over.
func TestMemory(t *testing.T) {
	get := func(num int) func([]api.Opt, []byte) []api.Opt {
		return func(opts []api.Opt, _ []byte) []api.Opt {
			val, _ := opt.Get(opts, num)
			return options(val)
		}
	}
	without := func(num int) func([]api.Opt, []byte) []api.Opt {
		return func(opts []api.Opt, _ []byte) []api.Opt { return opt.Without(opts, num) }
	}
	add := func(num int) func([]api.Opt, []byte) []api.Opt {
		return func(opts []api.Opt, val []byte) []api.Opt { return opt.Add(opts, num, val) }
	}
	for what, call := range map[string]func([]api.Opt, []byte) []api.Opt{
		"Write": func(opts []api.Opt, _ []byte) []api.Opt {
			b, _ := opt.Write(opts)
			return options(b)
		},
		"Get":                 get(11),
		"Get of an empty one": get(12),
		"All":                 func(opts []api.Opt, _ []byte) []api.Opt { return options(opt.All(opts, 11)...) },
		"Without":             without(11),
		"Without the last":    without(60),
		"Without none":        without(5),
		"Add":                 add(11),
		"Add first":           add(0),
		"Add last":            add(65),
		"Add to none":         func(opts []api.Opt, val []byte) []api.Opt { return opt.Add(opts[:0], 65, val) },
	} {
		opts, val, row := given()
		fresh, _, text := given()
		room := opts[:cap(opts)]
		got := call(opts, val)
		apart(t, what, vals(got), [][]byte{row})
		want := call(opts, val)
		if !same(got, want) {
			t.Errorf("%s: another answer to the same", what)
		}
		spare := call(opts, val)
		for i := range spare[:cap(spare)] {
			spare[:cap(spare)][i] = api.Opt{Num: -7, Val: []byte("turned")}
		}
		if !same(room, fresh[:cap(fresh)]) || !bytes.Equal(row, text) {
			t.Errorf("%s: what was handed in is turned", what)
		}
		want = call(fresh, text[5:8])
		clear(row)
		clear(room)
		if !same(got, want) {
			t.Errorf("%s: an argument is kept", what)
		}
	}
}

// P8.3: what is read is new memory; the bytes stay, behind their length too.
func TestMemoryOfRead(t *testing.T) {
	row := []byte("\x03abc\x13def\x00\x00\x0d\x01abcdefghijklmn\xffbody")
	text := bytes.Clone(row)
	for _, b := range [][]byte{row, row[:26], row[:9], row[:8], row[:2], row[:0]} {
		opts, _, _ := opt.Read(b)
		apart(t, "Read", vals(opts), [][]byte{row})
		if !bytes.Equal(row, text) {
			t.Fatalf("Read of %d bytes turns them", len(b))
		}
		n, _ := opt.Number(b[:min(len(b), 7)])
		if again, _ := opt.Number(b[:min(len(b), 7)]); n != again || !bytes.Equal(row, text) {
			t.Fatalf("Number of %d bytes turns them", len(b))
		}
	}
	opts, _, e := opt.Read(row)
	want, _, _ := opt.Read(text)
	clear(row)
	if e != api.OK || len(opts) != 5 || !same(opts, want) {
		t.Errorf("the bytes are kept: %v", opts)
	}
}

// P8.3: each number's bytes are a list of its own.
func TestMemoryOfUint(t *testing.T) {
	for _, n := range []int64{0, 1, 300, 1 << 40} {
		a, b := opt.Uint(n), opt.Uint(n)
		apart(t, "Uint", [][]byte{a}, [][]byte{b})
	}
}
