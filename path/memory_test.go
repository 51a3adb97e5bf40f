package path_test

import (
	"bytes"
	"slices"
	"testing"

	"outpost/api"
	"outpost/path"
)

// given are options whose values lie in one row of bytes, each with the others in its spare room, and with options in their own spare room.
func given() (opts, room []Opt, row []byte) {
	row = []byte("53pmin=10gt=-7st=1x=y=spare room")
	room = []Opt{{Num: 15, Val: row[2:9]}, {Num: 11, Val: row[:1]}, {Num: 15, Val: row[9:14]}, {Num: 11, Val: row[1:2]}, {Num: 15, Val: row[14:18]}, {Num: 11, Val: row[:1]}, {Num: 15, Val: row[18:18]}, {Num: 15, Val: row[18:22]}, {Num: 15, Val: row[2:6]}, {Num: 11, Val: row[:2]}}
	return room[:8], room, row
}

// answers are what the calls that are handed options answer.
type answers struct {
	segs  []string
	p     []int
	query []Pair
	cond  Cond
}

// asked are the answers of options that tell a path and a condition.
func asked(t *testing.T, opts []Opt) answers {
	t.Helper()
	a := answers{segs: path.Segs(opts), query: path.Query(opts)}
	p, e := path.Of(opts)
	c, ok, f := path.Cond(opts)
	if e != api.OK || f != api.OK || !ok {
		t.Errorf("Of and Cond: %d, %d, %t", e, f, ok)
	}
	a.p, a.cond = p, c
	return a
}

// holds tells whether these are the answers that are to be.
func (a answers) holds() bool {
	return slices.Equal(a.segs, []string{"5", "3", "5"}) && slices.Equal(a.p, []int{5, 3, 5}) &&
		slices.Equal(a.query, []Pair{pair("pmin", "10"), pair("gt", "-7"), pair("st", "1"), bare(""), pair("x", "y=")}) &&
		a.cond == Cond{PMin: 10, HasMin: true, Gt: -7, HasGt: true, St: 1, HasSt: true}
}

// turn turns all that answers have, spare room too.
func (a answers) turn() {
	for i := range a.segs[:cap(a.segs)] {
		a.segs[:cap(a.segs)][i] = "turned"
	}
	for i := range a.p[:cap(a.p)] {
		a.p[:cap(a.p)][i] = -9
	}
	for i := range a.query[:cap(a.query)] {
		a.query[:cap(a.query)][i] = bare("turned")
	}
}

// turnOpts turns all that options have, spare room too: of each value the bytes, and then it itself.
func turnOpts(opts []Opt) {
	for i := range opts[:cap(opts)] {
		o := &opts[:cap(opts)][i]
		for k := range o.Val[:cap(o.Val)] {
			o.Val[:cap(o.Val)][k] ^= 255
		}
		*o = Opt{Num: -9, Val: []byte("turned")}
	}
}

// P16.3: options stay, behind their lengths too; what they tell is new memory, and hangs on none that is written over.
func TestMemoryOfOptions(t *testing.T) {
	opts, room, row := given()
	_, fresh, text := given()
	first, second := asked(t, opts), asked(t, opts)
	if !first.holds() {
		t.Errorf("%v", first)
	}
	first.turn()
	if !sameOpts(room, fresh) || !bytes.Equal(row, text) {
		t.Error("what was handed in is turned")
	}
	if !second.holds() || !asked(t, opts).holds() {
		t.Error("two answers share memory")
	}
	clear(row)
	clear(room)
	if !second.holds() {
		t.Errorf("an argument is kept: %v", second)
	}
}

// P16.3: texts and pairs stay, behind their count too; their options are new memory, none with a byte of another.
func TestMemoryOfTexts(t *testing.T) {
	segs := []string{"5", "", "long enough to lie anywhere", "5", "spare", "room"}
	ps := []Pair{pair("pmin", "10"), bare("x"), pair("", ""), bare("x"), pair("spare", "room")}
	segsThen, psThen := slices.Clone(segs), slices.Clone(ps)
	for what, call := range map[string]func() []Opt{
		"Opts":    func() []Opt { return path.Opts(segs[:4]...) },
		"Queries": func() []Opt { return path.Queries(ps[:4]...) },
	} {
		want := call()
		for i := range want {
			got := call()
			turnOpts(got[i : i+1 : i+1])
			if !sameOpts(got[:i], want[:i]) || !sameOpts(got[i+1:], want[i+1:]) || len(want) != 4 {
				t.Errorf("%s: option %d shares memory", what, i)
			}
		}
		got, again := call(), call()
		turnOpts(got)
		if !sameOpts(again, want) || !sameOpts(call(), want) {
			t.Errorf("%s: two answers share memory", what)
		}
		if !slices.Equal(segs, segsThen) || !slices.Equal(ps, psThen) {
			t.Errorf("%s: what was handed in is turned", what)
		}
		clear(segs)
		clear(ps)
		if !sameOpts(again, want) {
			t.Errorf("%s: an argument is kept", what)
		}
		copy(segs, segsThen)
		copy(ps, psThen)
	}
}

// P16.3: numbers stay, behind their count too; a path that is read is new memory.
func TestMemoryOfPaths(t *testing.T) {
	p := []int{5, 0, 3, 9}
	for n := range p {
		text := path.Text(p[:n])
		first, _ := path.Read(text)
		second, e := path.Read(text)
		for i := range first[:cap(first)] {
			first[:cap(first)][i] = -9
		}
		if !path.Right(p[:n]) || !slices.Equal(second, p[:n]) || e != api.OK || !slices.Equal(p, []int{5, 0, 3, 9}) {
			t.Errorf("%q: %v, %d, of %v", text, second, e, p)
		}
	}
}
