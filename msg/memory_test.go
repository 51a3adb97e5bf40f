package msg_test

import (
	"bytes"
	"testing"

	"outpost/api"
	"outpost/msg"
)

// lists are all lists of bytes of a message.
func lists(m api.Msg) [][]byte {
	all := [][]byte{m.Token, m.Body}
	for _, x := range m.Opts {
		all = append(all, x.Val)
	}
	return all
}

// apart holds that no list of an answer shares a byte with another, or with one that was handed in, spare room too.
func apart(t *testing.T, what string, answer, given [][]byte) {
	t.Helper()
	turn := func(b []byte) {
		for i := range b {
			b[i] ^= 255
		}
	}
	all := append(answer[:len(answer):len(answer)], given...)
	for i, x := range answer {
		before := make([][]byte, len(all))
		for k, y := range all {
			before[k] = bytes.Clone(y[:cap(y)])
		}
		turn(x[:cap(x)])
		for k, y := range all {
			if k != i && !bytes.Equal(y[:cap(y)], before[k]) {
				t.Errorf("%s: list %d shares memory with list %d", what, i, k)
			}
		}
		turn(x[:cap(x)])
	}
}

// given is a message whose lists lie in one row of bytes, each with the others in its spare room, and with one option more in that of its options.
func given() (m api.Msg, row []byte) {
	row = []byte("0123456789abcdefghijklmnopqrstuvwxyz")
	room := []api.Opt{{Num: 12, Val: row[9:9]}, {Num: 11, Val: row[2:5]}, {Num: 11, Val: row[3:8]}, {Num: 60, Val: row[:3]}}
	return api.Msg{Kind: api.Con, Code: api.Put, ID: 5, Token: row[:4], Opts: room[:3], Body: row[3:20]}, row
}

// P9.3: arguments stay, behind their lengths too; answers are new memory, spare room too, and hang on no argument that is written over.
func TestMemory(t *testing.T) {
	other := api.Msg{Kind: api.Non, Token: []byte("other")}
	for what, call := range map[string]func(api.Msg) api.Msg{
		"Write": func(m api.Msg) api.Msg {
			b, _ := msg.Write(m)
			return api.Msg{Body: b}
		},
		"Ack":             msg.Ack,
		"Reply":           func(m api.Msg) api.Msg { return msg.Reply(m, api.Content, 9, m.Opts, m.Body) },
		"Reply's token":   func(m api.Msg) api.Msg { return msg.Reply(m, api.Content, 9, nil, nil) },
		"Reply to others": func(m api.Msg) api.Msg { return msg.Reply(other, api.Content, 9, m.Opts, m.Body) },
		"Same":            func(m api.Msg) api.Msg { return map[bool]api.Msg{true: {Kind: 1}}[msg.Same(m, m)] },
	} {
		m, row := given()
		fresh, text := given()
		room := m.Opts[:cap(m.Opts)]
		got := call(m)
		apart(t, what, lists(got), [][]byte{row, other.Token})
		spare := call(m)
		if !equal(got, spare) {
			t.Errorf("%s: another answer to the same", what)
		}
		for i := range spare.Opts[:cap(spare.Opts)] {
			spare.Opts[:cap(spare.Opts)][i] = api.Opt{Num: -7, Val: []byte("turned")}
		}
		if !equal(api.Msg{Opts: room}, api.Msg{Opts: fresh.Opts[:4]}) || !bytes.Equal(row, text) {
			t.Errorf("%s: what was handed in is turned", what)
		}
		want := call(fresh)
		clear(row)
		clear(room)
		if !equal(got, want) {
			t.Errorf("%s: an argument is kept", what)
		}
	}
}

// P9.3: what is read is new memory; the bytes stay, behind their length too.
func TestMemoryOfRead(t *testing.T) {
	row := []byte("\x44\x02\x01\x02tokn\xb3abc\x03def\x00\xffbody and more")
	text := bytes.Clone(row)
	for n := range len(row) + 1 {
		m, _ := msg.Read(row[:n])
		apart(t, "Read", lists(m), [][]byte{row})
		msg.Sniff(row[:n])
		if !bytes.Equal(row, text) {
			t.Fatalf("Read of %d bytes turns them", n)
		}
	}
	m, e := msg.Read(row)
	want, _ := msg.Read(text)
	clear(row)
	if e != api.OK || len(m.Opts) != 3 || string(m.Body) != "body and more" || !equal(m, want) {
		t.Errorf("the bytes are kept: %v, %d", m, e)
	}
}
