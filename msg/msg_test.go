package msg_test

import (
	"bytes"
	"math"
	"strings"
	"testing"

	"outpost/api"
	"outpost/msg"
)

// o is an option.
func o(num int, val string) api.Opt { return api.Opt{Num: num, Val: []byte(val)} }

// isUsed tells whether a code is in its range, and of a class that is used.
func isUsed(code int) bool {
	return 0 <= code && code <= 31 || 64 <= code && code <= 191
}

func writes(t *testing.T, what string, m api.Msg, want string, wrong api.Errno) {
	t.Helper()
	if b, e := msg.Write(m); string(b) != want || e != wrong {
		t.Errorf("%s: Write: %x, %d, want %x, %d", what, b, e, want, wrong)
	}
}

func reads(t *testing.T, what, b string, want api.Msg, wrong api.Errno) {
	t.Helper()
	if m, e := msg.Read([]byte(b)); !equal(m, want) || e != wrong {
		t.Errorf("%s: Read of %x: %v, %d, want %v, %d", what, b, m, e, want, wrong)
	}
}

// both holds that a message whose options are sorted is these bytes, and that these are read as it.
func both(t *testing.T, what string, m api.Msg, b string) {
	t.Helper()
	writes(t, what, m, b, api.OK)
	reads(t, what, b, m, api.OK)
}

// P9.1: the document's own examples.
func TestExamples(t *testing.T) {
	m := api.Msg{Kind: api.Con, Code: api.Get, ID: 7, Opts: []api.Opt{o(11, "a")}}
	both(t, "a Con Get", m, "\x40\x01\x00\x07\xb1a")
	both(t, "an empty Ack of it", msg.Ack(m), "\x60\x00\x00\x07")
}

// P9.1, P9.2: each kind, each code of a class that is used, and each length of a token.
func TestHeads(t *testing.T) {
	token := "\x01\xff\x00\x02\xf0abc"
	for kind := range 4 {
		for code := range 256 {
			for size := range len(token) + 1 {
				m := api.Msg{Kind: kind, Code: code, ID: 0x01F2, Token: []byte(token[:size])}
				b := string([]byte{byte(64 + 16*kind + size), byte(code), 0x01, 0xF2}) + token[:size]
				if !isUsed(code) {
					writes(t, "a class that isn't used", m, "", api.ErrArg)
					reads(t, "a class that isn't used", b, api.Msg{}, api.ErrForm)
				} else if code == api.Empty && size > 0 {
					writes(t, "an empty one with a token", m, "", api.ErrArg)
					reads(t, "an empty one with a token", b, api.Msg{}, api.ErrForm)
				} else {
					both(t, "head", m, b)
				}
			}
		}
	}
}

// P9.1, P9.2: each ID, the higher byte first.
func TestIDs(t *testing.T) {
	for id := range 65536 {
		m := api.Msg{Kind: api.Non, Code: api.Content, ID: id}
		both(t, "ID", m, string([]byte{0x50, 0x45, byte(id / 256), byte(id % 256)}))
	}
}

// P9.1, P9.2: what stands behind the head: the token, the options, 255 and the body.
func TestParts(t *testing.T) {
	body := strings.Repeat("b", 1200)
	for _, c := range []struct {
		what, token string
		opts        []api.Opt
		body, b     string
	}{
		{"none", "", nil, "", "\x50\x02\x01\x02"},
		{"a token", "\xff", nil, "", "\x51\x02\x01\x02\xff"},
		{"an option", "", []api.Opt{o(1, "\xff")}, "", "\x50\x02\x01\x02\x11\xff"},
		{"a body", "", nil, "x", "\x50\x02\x01\x02\xffx"},
		{"a token and an option", "t", []api.Opt{o(60, "v")}, "", "\x51\x02\x01\x02t\xd1\x2fv"},
		{"a token and a body", "t", nil, "x", "\x51\x02\x01\x02t\xffx"},
		{"an option and a body", "", []api.Opt{o(1, "")}, "x", "\x50\x02\x01\x02\x10\xffx"},
		{"all", "\x01\x02", []api.Opt{o(11, "a"), o(11, ""), o(12, "c")}, "x", "\x52\x02\x01\x02\x01\x02\xb1a\x00\x11c\xffx"},
		{"a body of 255", "", nil, "\xff", "\x50\x02\x01\x02\xff\xff"},
		{"a body with 255", "", []api.Opt{o(1, "\xff")}, "\xff\xffa\xff", "\x50\x02\x01\x02\x11\xff\xff\xff\xffa\xff"},
		{"a body of 0", "", nil, "\x00", "\x50\x02\x01\x02\xff\x00"},
		{"the longest body", "", nil, body, "\x50\x02\x01\x02\xff" + body},
		{"the longest body behind all", "12345678", []api.Opt{o(0, "")}, body, "\x58\x02\x01\x0212345678\x00\xff" + body},
		{"24 options", "", make([]api.Opt, 24), "x", "\x50\x02\x01\x02" + strings.Repeat("\x00", 24) + "\xffx"},
		{"the greatest option", "", []api.Opt{o(65535, body[:300])}, "", "\x50\x02\x01\x02\xee\xfe\xf2\x00\x1f" + body[:300]},
	} {
		both(t, c.what, api.Msg{Kind: api.Non, Code: api.Post, ID: 258, Token: []byte(c.token), Opts: c.opts, Body: []byte(c.body)}, c.b)
	}
	writes(t, "lists that are nil", api.Msg{Code: api.Get}, "\x40\x01\x00\x00", api.OK)
	writes(t, "lists that are empty", api.Msg{Code: api.Get, Token: []byte{}, Opts: []api.Opt{}, Body: []byte{}}, "\x40\x01\x00\x00", api.OK)
	writes(t, "an empty one of empty lists", api.Msg{Token: []byte{}, Opts: []api.Opt{}, Body: []byte{}}, "\x40\x00\x00\x00", api.OK)
	writes(t, "options that aren't sorted", api.Msg{Code: api.Get, Opts: []api.Opt{o(11, "b"), o(6, ""), o(11, "a")}}, "\x40\x01\x00\x00\x60\x51b\x01a", api.OK)
}

// P9.1: whatever kind an empty message is of, it has nothing more.
func TestEmpty(t *testing.T) {
	for kind := range 4 {
		head := string([]byte{byte(0x40 + 16*kind), 0, 0, 9})
		both(t, "empty", api.Msg{Kind: kind, ID: 9}, head)
		for _, m := range []api.Msg{{Token: []byte{0}}, {Opts: []api.Opt{{}}}, {Body: []byte{0}}, {Token: make([]byte, 9)}, {Body: make([]byte, 1201)}, {Opts: make([]api.Opt, 25)}, {Opts: []api.Opt{{Num: -1}}}} {
			m.Kind, m.ID = kind, 9
			writes(t, "an empty one with more", m, "", api.ErrArg)
		}
		for _, behind := range []string{"\x00", "\x11a", "\xff", "\xffx", "\xf0", "\x00\xff" + strings.Repeat("x", 1201)} {
			reads(t, "an empty one with more", head+behind, api.Msg{}, api.ErrForm)
		}
	}
}

// P9.1, P1: Write's errors in their order: of all that is wrong at once, what is named first is told.
func TestErrorsOfWrite(t *testing.T) {
	numbers := []func(*api.Msg){
		func(m *api.Msg) { m.Kind = -1 }, func(m *api.Msg) { m.Kind = 4 }, func(m *api.Msg) { m.Kind = math.MinInt }, func(m *api.Msg) { m.Kind = math.MaxInt }, func(m *api.Msg) { m.Kind = 1 << 32 },
		func(m *api.Msg) { m.Code = -1 }, func(m *api.Msg) { m.Code = -31 }, func(m *api.Msg) { m.Code = -192 }, func(m *api.Msg) { m.Code = math.MinInt }, func(m *api.Msg) { m.Code = 256 }, func(m *api.Msg) { m.Code = 256 + 69 }, func(m *api.Msg) { m.Code = math.MaxInt }, func(m *api.Msg) { m.Code = 1<<32 + 1 },
		func(m *api.Msg) { m.Code = 32 }, func(m *api.Msg) { m.Code = 63 }, func(m *api.Msg) { m.Code = 192 }, func(m *api.Msg) { m.Code = 223 }, func(m *api.Msg) { m.Code = 224 }, func(m *api.Msg) { m.Code = 255 },
		func(m *api.Msg) { m.ID = -1 }, func(m *api.Msg) { m.ID = math.MinInt }, func(m *api.Msg) { m.ID = 65536 }, func(m *api.Msg) { m.ID = math.MaxInt }, func(m *api.Msg) { m.ID = 1<<32 + 5 },
	}
	sizes := []func(*api.Msg){
		func(m *api.Msg) { m.Token = make([]byte, 9) }, func(m *api.Msg) { m.Token = make([]byte, 16) }, func(m *api.Msg) { m.Token = make([]byte, 256) },
		func(m *api.Msg) { m.Body = make([]byte, 1201) }, func(m *api.Msg) { m.Body = make([]byte, 65536) },
	}
	options := []struct {
		opts  []api.Opt
		wrong api.Errno
	}{
		{make([]api.Opt, 25), api.ErrMany},
		{append(make([]api.Opt, 24), o(-1, string(make([]byte, 301)))), api.ErrMany},
		{[]api.Opt{o(65536, "")}, api.ErrArg},
		{[]api.Opt{o(1, string(make([]byte, 301))), o(-1, "")}, api.ErrArg},
		{[]api.Opt{o(1, string(make([]byte, 301)))}, api.ErrLong},
	}
	whole := func() api.Msg {
		return api.Msg{Kind: api.Non, Code: api.Put, ID: 3, Token: []byte("t"), Opts: []api.Opt{o(11, "a")}, Body: []byte("b")}
	}
	for i, wrong := range numbers {
		m := whole()
		wrong(&m)
		writes(t, "a number", m, "", api.ErrArg)
		for _, long := range sizes {
			m := whole()
			long(&m)
			writes(t, "a size", m, "", api.ErrLong)
			wrong(&m)
			writes(t, "a number and a size", m, "", api.ErrArg)
		}
		for _, c := range options {
			m := whole()
			m.Opts = c.opts
			writes(t, "options", m, "", c.wrong)
			sizes[i%len(sizes)](&m)
			writes(t, "a size and options", m, "", api.ErrLong)
			wrong(&m)
			writes(t, "all", m, "", api.ErrArg)
		}
	}
}

// P9.1, P1: Read's errors, and their order.
func TestErrorsOfRead(t *testing.T) {
	head, long := "\x42\x01\x00\x07", strings.Repeat("x", 1201)
	for _, c := range []struct {
		what, b string
		wrong   api.Errno
	}{
		{"nothing", "", api.ErrForm}, {"one byte", "\x40", api.ErrForm}, {"two", "\x40\x01", api.ErrForm}, {"three", "\x40\x01\x00", api.ErrForm},
		{"bits 00", "\x02\x01\x00\x07ab", api.ErrForm}, {"bits 10", "\x82\x01\x00\x07ab", api.ErrForm}, {"bits 11", "\xc2\x01\x00\x07ab", api.ErrForm},
		{"a token of 9", "\x49\x01\x00\x07123456789", api.ErrForm}, {"a token of 15", "\x4f\x01\x00\x07123456789012345", api.ErrForm},
		{"class 1", "\x42\x20\x00\x07ab", api.ErrForm}, {"class 6", "\x42\xc0\x00\x07ab", api.ErrForm}, {"class 7", "\x42\xff\x00\x07ab", api.ErrForm},
		{"an empty one that would have a token", "\x41\x00\x00\x07", api.ErrForm},
		{"no token", head, api.ErrForm}, {"half a token", head + "a", api.ErrForm}, {"a token that is one too short", "\x48\x01\x00\x071234567", api.ErrForm},

		{"an option's first byte", head + "ab\xf0", api.ErrForm},
		{"an option that ends", head + "ab\x12a", api.ErrForm},
		{"25 options", head + "ab" + strings.Repeat("\x00", 25), api.ErrMany},
		{"an option's number", head + "ab\xe0\xff\xff", api.ErrArg},
		{"an option's length", head + "ab\x0e\x00\x20" + long, api.ErrLong},
		{"25 options, and 255 with nothing behind", head + "ab" + strings.Repeat("\x00", 25) + "\xff", api.ErrMany},
		{"an option's number, and a long body", head + "ab\xe0\xff\xff\xff" + long, api.ErrArg},
		{"an option's form, and a long body", head + "ab\x1f\xff" + long, api.ErrForm},

		{"255 with nothing behind", head + "ab\xff", api.ErrForm},
		{"255 with nothing behind an option", head + "ab\x11a\xff", api.ErrForm},
		{"1201 bytes", head + "ab\xff" + long, api.ErrLong},
		{"1201 bytes behind an option", head + "ab\x11a\xff" + long, api.ErrLong},
		{"more than 1201", head + "ab\xff" + long + long, api.ErrLong},
	} {
		reads(t, c.what, c.b, api.Msg{}, c.wrong)
	}
	reads(t, "1200 bytes", head+"ab\xff"+long[1:], api.Msg{Code: api.Get, ID: 7, Token: []byte("ab"), Body: []byte(long[1:])}, api.OK)
}

// P9.1: the kind and ID of four bytes or more, whatever else is there.
func TestSniff(t *testing.T) {
	for x := range 256 {
		for _, behind := range []string{"", "\x00", "\x01\x02", "\xff\x01\x02", "\x00\xff\xfe", "\x20\x80\x00\xff", "\x01\x00\x00" + strings.Repeat("x", 3000)} {
			b := string([]byte{byte(x)}) + behind
			kind, id, ok := msg.Sniff([]byte(b))
			if x < 64 || x > 127 || len(b) < 4 {
				if kind != 0 || id != 0 || ok {
					t.Errorf("%x: %d, %d, %t", b, kind, id, ok)
				}
			} else if kind != (x-64)/16 || id != int(b[2])*256+int(b[3]) || !ok {
				t.Errorf("%x: %d, %d, %t", b, kind, id, ok)
			}
		}
	}
	if kind, id, ok := msg.Sniff(nil); kind != 0 || id != 0 || ok {
		t.Errorf("nil: %d, %d, %t", kind, id, ok)
	}
}

// P9.1: class 0 asks, but for Empty; classes 2, 4 and 5 answer; of a number that is no code, neither.
func TestRequestAndAnswer(t *testing.T) {
	codes := []int{math.MinInt, math.MinInt + 69, -1 << 32, -192, -187, -129, -65, -32, -31, -2, -1, 256, 257, 256 + 69, 320, 325, 384, 1<<16 + 1, 1<<32 + 1, 1<<32 + 69, math.MaxInt}
	for code := range 256 {
		codes = append(codes, code)
	}
	for _, code := range codes {
		for _, kind := range []int{api.Con, api.Non, api.Ack, api.Rst, -1, 4} {
			m := api.Msg{Kind: kind, Code: code, ID: 1, Token: []byte("t")}
			if got, want := msg.Request(m), 1 <= code && code <= 31; got != want {
				t.Errorf("kind %d, code %d: Request %t", kind, code, got)
			}
			if got, want := msg.Answer(m), 64 <= code && code <= 95 || 128 <= code && code <= 191; got != want {
				t.Errorf("kind %d, code %d: Answer %t", kind, code, got)
			}
		}
	}
}

// P9.1: what is made of a message, or of an ID, has that and no more; numbers stay as they are.
func TestAckResetAndReply(t *testing.T) {
	for _, id := range []int{0, 7, 65535, 65536, -1, math.MinInt, math.MaxInt} {
		for _, kind := range []int{api.Con, api.Non, api.Ack, api.Rst, -1, 4, math.MaxInt} {
			m := api.Msg{Kind: kind, Code: api.Put, ID: id, Token: []byte("tok"), Opts: []api.Opt{o(11, "a")}, Body: []byte("b")}
			if got := msg.Ack(m); !equal(got, api.Msg{Kind: api.Ack, ID: id}) {
				t.Errorf("Ack of %v: %v", m, got)
			}
			opts := []api.Opt{o(12, ""), o(-8, "/"), o(11, strings.Repeat("l", 301))}
			want := api.Msg{Kind: api.Non, Code: -9, ID: 44, Token: []byte("tok"), Opts: opts, Body: []byte("body")}
			if kind == api.Con {
				want.Kind, want.ID = api.Ack, id
			}
			if got := msg.Reply(m, -9, 44, opts, []byte("body")); !equal(got, want) {
				t.Errorf("Reply to %v: %v, want %v", m, got, want)
			}
			want.Opts, want.Body = nil, nil
			if got := msg.Reply(m, -9, 44, nil, nil); !equal(got, want) {
				t.Errorf("Reply of nothing to %v: %v, want %v", m, got, want)
			}
		}
		if got := msg.Reset(id); !equal(got, api.Msg{Kind: api.Rst, ID: id}) {
			t.Errorf("Reset of %d: %v", id, got)
		}
	}
	long := api.Msg{Kind: api.Non, Token: bytes.Repeat([]byte("t"), 20)}
	if got := msg.Reply(long, api.Content, 1<<20, nil, make([]byte, 2000)); len(got.Token) != 20 || len(got.Body) != 2000 || got.ID != 1<<20 || got.Code != api.Content {
		t.Errorf("Reply beyond the bounds: %v", got)
	}
}

// P9.1: messages are the same if each part is; a list that is nil is one that is empty.
func TestSame(t *testing.T) {
	whole := func() api.Msg {
		return api.Msg{Kind: api.Non, Code: api.Put, ID: 3, Token: []byte("tok"), Opts: []api.Opt{o(11, "a"), o(12, ""), o(12, "b")}, Body: []byte("body")}
	}
	a := whole()
	if !msg.Same(a, whole()) || !msg.Same(a, a) {
		t.Error("the same aren't")
	}
	for i, turn := range []func(*api.Msg){
		func(m *api.Msg) { m.Kind = api.Con }, func(m *api.Msg) { m.Kind = -1 }, func(m *api.Msg) { m.Code++ }, func(m *api.Msg) { m.Code += 256 }, func(m *api.Msg) { m.ID = 4 }, func(m *api.Msg) { m.ID += 65536 },
		func(m *api.Msg) { m.Token = nil }, func(m *api.Msg) { m.Token = []byte("toc") }, func(m *api.Msg) { m.Token = []byte("to") }, func(m *api.Msg) { m.Token = []byte("tok\x00") },
		func(m *api.Msg) { m.Body = nil }, func(m *api.Msg) { m.Body = []byte("bodx") }, func(m *api.Msg) { m.Body = []byte("bod") }, func(m *api.Msg) { m.Body = []byte("body\x00") },
		func(m *api.Msg) { m.Opts = nil }, func(m *api.Msg) { m.Opts = m.Opts[:2] }, func(m *api.Msg) { m.Opts = m.Opts[1:] }, func(m *api.Msg) { m.Opts = append(m.Opts, api.Opt{}) },
		func(m *api.Msg) { m.Opts[0].Num = 10 }, func(m *api.Msg) { m.Opts[0].Val = nil }, func(m *api.Msg) { m.Opts[1].Val = []byte{0} }, func(m *api.Msg) { m.Opts[2].Val = []byte("c") },
		func(m *api.Msg) { m.Opts[1], m.Opts[2] = m.Opts[2], m.Opts[1] }, func(m *api.Msg) { m.Opts[0], m.Opts[1] = m.Opts[1], m.Opts[0] },
	} {
		b := whole()
		turn(&b)
		if msg.Same(a, b) || msg.Same(b, a) {
			t.Errorf("turn %d: %v and %v are the same", i, a, b)
		}
		if !msg.Same(b, b) {
			t.Errorf("turn %d: %v isn't the same as itself", i, b)
		}
	}
	bare := api.Msg{Code: api.Get, Opts: []api.Opt{{Num: 3}}}
	full := api.Msg{Code: api.Get, Token: []byte{}, Opts: []api.Opt{{Num: 3, Val: []byte{}}}, Body: []byte{}}
	if !msg.Same(bare, full) || !msg.Same(full, bare) || !msg.Same(api.Msg{}, api.Msg{Opts: []api.Opt{}}) {
		t.Error("nil and empty")
	}
}
