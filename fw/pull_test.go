package fw_test

import (
	"math"
	"strings"
	"testing"

	"outpost/api"
	"outpost/block"
)

// P23.1: what comes of a URI.
func TestURIs(t *testing.T) {
	long := "coap://h/" + strings.Repeat("x", 91)
	for _, c := range []struct {
		uri    string
		code   int
		state  int
		result int
	}{
		{"coap://h/", 68, 1, 0}, {"coap://h/x", 68, 1, 0}, {"coap://a.b-c.09/x/y?z=1", 68, 1, 0}, {"coap://-/", 68, 1, 0}, {"coap://.//", 68, 1, 0}, {"coap://0/coap://", 68, 1, 0}, {"coap://az/ \u00e9\u20ac\U0001f600~", 68, 1, 0}, {long, 68, 1, 0},
		{"coap://h", 68, 0, 7}, {"coap:///", 68, 0, 7}, {"coap://", 68, 0, 7}, {"coap:///x", 68, 0, 7}, {"coap://H/", 68, 0, 7}, {"coap://hH/", 68, 0, 7}, {"coap://h:5683/", 68, 0, 7}, {"coap://h?/", 68, 0, 7}, {"coap://h_/", 68, 0, 7}, {"coap://h\u00e9/", 68, 0, 7}, {"coap://\u00e9/", 68, 0, 7}, {"coap://h`/", 68, 0, 7}, {"coap://h{/", 68, 0, 7}, {"coap://h,/", 68, 0, 7}, {"coap://@/", 68, 0, 7}, {"coap://h@h/", 68, 0, 7}, {"coap://h[/", 68, 0, 7},
		{"x", 68, 0, 7}, {" ", 68, 0, 7}, {"/", 68, 0, 7}, {"coap", 68, 0, 7}, {"coap:", 68, 0, 7}, {"coap:/", 68, 0, 7}, {"coap:/h/", 68, 0, 7}, {"coap/://h/", 68, 0, 7}, {"coap//h/", 68, 0, 7}, {"://h/", 68, 0, 7}, {"://", 68, 0, 7}, {"Coap://h/", 68, 0, 7}, {"coaP://h/", 68, 0, 7}, {"COAP://h/", 68, 0, 7}, {" coap://h/", 68, 0, 7}, {"coap ://h/", 68, 0, 7}, {"coap1://h/", 68, 0, 7}, {"a-b://h/", 68, 0, 7}, {"\u00e9://h/", 68, 0, 7}, {"a\u00e9://h/", 68, 0, 7}, {"http:x://h/", 68, 0, 7}, {"h/coap://h/", 68, 0, 7},
		{"http://h/", 68, 0, 9}, {"coaps://h/", 68, 0, 9}, {"xcoap://h/", 68, 0, 9}, {"coa://h/", 68, 0, 9}, {"a://", 68, 0, 9}, {"z://H", 68, 0, 9}, {"coapcoap://h/", 68, 0, 9}, {"az://coap://h/", 68, 0, 9},
		{long + "x", 128, 0, 0}, {strings.Repeat("coap://h/", 1000), 128, 0, 0}, {"a\n", 128, 0, 0}, {"\x7f", 128, 0, 0}, {"coap://h/\x00", 128, 0, 0}, {"coap://h/\x1f", 128, 0, 0}, {"coap://h/\x7f", 128, 0, 0}, {"coap://h/\xff", 128, 0, 0}, {"coap://h/\xc3", 128, 0, 0}, {"coap://h/\xed\xa0\x80", 128, 0, 0}, {"http://h/\n", 128, 0, 0}, {strings.Repeat("\u20ac", 34), 128, 0, 0},
		{strings.Repeat("\u20ac", 33) + "a", 68, 0, 7},
	} {
		d := newDevice(t, made(1, 3))
		u := d.boot()
		u.answers(c.uri, u.SetURI(c.uri), c.code)
		u.is(c.uri, c.state, c.result)
		want := c.uri
		if c.code != 68 {
			want = ""
		}
		if u.URI() != want {
			t.Errorf("%q: URI %q", c.uri, u.URI())
		}
		u.wanted(c.uri, c.state-1)
		if u = d.boot(); u.URI() != want {
			t.Errorf("%q: URI %q behind a boot", c.uri, u.URI())
		}
		if c.state == 1 {
			c.result = 4
		}
		u.is(c.uri, 0, c.result)
		u.wanted(c.uri, -1)
	}
}

// P23.1: SetURI in each state.
func TestSetURI(t *testing.T) {
	for state := range 4 {
		for _, uri := range []string{"coap://h/x", "http://h/", "x", "a\n", strings.Repeat("x", 101)} {
			if state == 0 {
				continue
			}
			_, u := in(t, state)
			u.answers("SetURI", u.SetURI(uri), api.NotAllowed)
			u.is("SetURI", state, 0, byte(state/2*2))
			u.wanted("SetURI", -1)
			if u.URI() != "" {
				t.Errorf("URI %q", u.URI())
			}
			if state == 1 { // what was pushed goes on
				u.answers("more of it", u.Push(block.Block{Num: 1, More: true, Size: 64}, made(2, 100)[64:128]), api.Continue)
			}
		}
	}
	_, u := pulling(t, made(2, 100), 1)
	u.answers("SetURI", u.SetURI("coap://h/y"), api.NotAllowed)
	u.wanted("SetURI", 1)
	u.is("SetURI", 1, 0)
	if u.URI() != "coap://h/x" {
		t.Errorf("URI %q", u.URI())
	}
}

// P23.1: SetURI of none in each state takes back what is delivered.
func TestSetURIOfNone(t *testing.T) {
	for state := range 4 {
		d, _ := in(t, state)
		u := d.keeping(2, []byte("x")...).look()
		if state == 3 {
			u.answers("of none", u.SetURI(""), api.NotAllowed)
			u.is("of none", 3, 0, 2)
			if u.URI() != "x" {
				t.Errorf("URI %q", u.URI())
			}
			continue
		}
		u.answers("of none", u.SetURI(""), api.Changed)
		u.is("of none", 0, 0)
		if u.URI() != "" || d.boot().URI() != "" {
			t.Errorf("URI %q", u.URI())
		}
	}
	_, u := in(t, 1)
	u.answers("of none", u.SetURI(""), api.Changed)
	u.is("of none", 0, 0)
	u.answers("more of it", u.Push(block.Block{Num: 1, More: true, Size: 64}, made(2, 100)[64:128]), api.NotAllowed)
	d, u := pulling(t, made(2, 100), 1)
	u.answers("of none", u.SetURI(""), api.Changed)
	u.is("of none", 0, 0)
	u.wanted("of none", -1)
	if u.URI() != "" || d.boot().URI() != "" || u.s.Got() != 0 {
		t.Errorf("URI %q", u.URI())
	}
	u.SetURI("http://h/")
	u.is("failed", 0, 9)
	u.answers("of none", u.SetURI(""), api.Changed)
	u.is("of none", 0, 0)
	if u.URI() != "" {
		t.Errorf("URI %q", u.URI())
	}
	u.answers("of none once more", u.SetURI(""), api.Changed)
	u.answers("another one", u.SetURI("coap://h/z"), api.Changed)
	if u.URI() != "coap://h/z" {
		t.Errorf("URI %q", u.URI())
	}
}

// P23.1: what isn't the block that is wanted turns nothing, and that is wanted still.
func TestBlocksThatAreNotWanted(t *testing.T) {
	img := made(2, 200)
	for blocks := range 3 {
		d, u := pulling(t, img, blocks)
		before := string(d.flash.Image())
		full := img[blocks*64:][:64]
		for _, num := range []int{math.MinInt, -1, 0, 1, 2, 3, 4, 1 << 20, math.MaxInt} {
			for _, size := range []int{math.MinInt, -64, 0, 16, 32, 63, 64, 65, 128, 1024, math.MaxInt} {
				for _, data := range [][]byte{nil, full[:32], full[:63], full, img[:65], img} {
					for _, more := range []bool{false, true} {
						if num == blocks && size == 64 && len(data) <= 64 && (!more || len(data) == 64) {
							continue
						}
						if e := u.Pulled(block.Block{Num: num, More: more, Size: size}, data); e != api.ErrState {
							t.Errorf("block %d of %d, %t, %d bytes: %d", num, size, more, len(data), e)
						}
					}
				}
			}
		}
		u.is("not wanted", 1, 0)
		u.wanted("not wanted", blocks)
		if string(d.flash.Image()) != before || u.s.Got() != blocks*64 {
			t.Error("something is written")
		}
		u.pullAll(img)
		u.is("and on", 2, 0, 2)
		if !u.s.Same(1, img) {
			t.Error("it isn't there")
		}
	}
	for state := range 4 {
		_, u := in(t, state)
		u.wanted("none", -1)
		for n := range 3 {
			if e := u.Pulled(block.Block{Num: n, More: true, Size: 64}, img[:64]); e != api.ErrState {
				t.Errorf("state %d: %d", state, e)
			}
			if e := u.Pulled(block.Block{Num: n, Size: 64}, nil); e != api.ErrState {
				t.Errorf("state %d: %d", state, e)
			}
		}
		u.is("none", state, 0, byte(state/2*2))
	}
}

// P23.1: the last block may be empty, the first one too.
func TestEmptyLastBlocks(t *testing.T) {
	img := made(2, 64)
	_, u := pulling(t, img, 2)
	u.answers("an empty one", int(u.Pulled(block.Block{Num: 2, Size: 64}, nil)), int(api.OK))
	u.is("an empty one", 2, 0, 2)
	u.wanted("an empty one", -1)
	_, u = pulling(t, img, 1)
	u.answers("too early", int(u.Pulled(block.Block{Num: 1, Size: 64}, nil)), int(api.OK))
	u.is("too early", 0, 5)
	_, u = pulling(t, img, 0)
	u.answers("nothing", int(u.Pulled(block.Block{Size: 64}, nil)), int(api.OK))
	u.is("nothing", 0, 6)
	u.wanted("nothing", -1)
}

// P23.1: what is pulled is lost with a result; where nothing is pulled, nothing is.
func TestLost(t *testing.T) {
	for _, result := range []int{math.MinInt, -1, 0, 1, 2, 3, 4, 5, 6, 7, 8, 9, 10, 11, 256 + 5, 1<<32 + 5, math.MaxInt} {
		want := 4
		if result >= 2 && result <= 9 {
			want = result
		}
		for blocks := range 3 {
			_, u := pulling(t, made(2, 200), blocks)
			u.Lost(result)
			u.is("Lost", 0, want)
			u.wanted("Lost", -1)
			if u.s.Got() != 0 || u.URI() != "coap://h/x" {
				t.Error("it goes on")
			}
			u.Lost(3)
			u.is("Lost once more", 0, want)
			u.answers("SetURI", u.SetURI("coap://h/y"), api.Changed)
			u.wanted("SetURI", 0)
		}
		for state := range 4 {
			_, u := in(t, state)
			u.Lost(result)
			u.is("Lost", state, 0, byte(state/2*2))
			if state == 1 {
				u.answers("more of it", u.Push(block.Block{Num: 1, More: true, Size: 64}, made(2, 100)[64:128]), api.Continue)
			}
		}
	}
	d, _ := pulling(t, made(2, 200), 1)
	u := d.look()
	u.Lost(5)
	u.is("of another object", 1, 0)
}
