package fw_test

import (
	"slices"
	"testing"

	"outpost/api"
	"outpost/block"
	"outpost/fsm"
)

// pair is a state and a result.
type pair [2]int

// script is what is done with a device, from a beginning on, and the pairs that this leads through, in order.
type script struct {
	what  string
	begin func(t *testing.T) *device
	do    func(d *device)
	pairs []pair
}

// fresh is a device with image 1 alone.
func fresh(t *testing.T) *device { return newDevice(t, made(1, 3)) }

// started is a device in a state, as a beginning.
func started(state int) func(t *testing.T) *device {
	return func(t *testing.T) *device {
		d, _ := in(t, state)
		return d
	}
}

// booted boots a device whose power may have gone, or goes: it is up, or nothing is told.
func booted(d *device) (up, bool) {
	if d.flash.Down() {
		return up{}, false
	}
	u, e := d.try()
	if e != api.OK {
		return up{}, false
	}
	if _, e := u.s.Select(); e != api.OK || u.Boot() != api.OK {
		return up{}, false
	}
	return u, true
}

func scripts() []script {
	img, old := made(2, 100), made(1, 100)
	return []script{
		{"pushed and run", fresh, func(d *device) {
			if u, ok := booted(d); ok {
				u.pushAll(img, 64)
				u.Update()
				booted(d)
			}
		}, []pair{{0, 0}, {1, 0}, {2, 0}, {3, 0}, {0, 1}}},
		{"pulled", fresh, func(d *device) {
			if u, ok := booted(d); ok {
				u.SetURI("coap://h/x")
				for n := range 3 {
					data, more, _ := block.Cut(img, n, 64)
					u.Pulled(block.Block{Num: n, More: more, Size: 64}, data)
				}
			}
		}, []pair{{0, 0}, {1, 0}, {2, 0}}},
		{"no later one", fresh, func(d *device) {
			if u, ok := booted(d); ok {
				u.pushAll(old, 32)
			}
		}, []pair{{0, 0}, {1, 0}, {0, 6}}},
		{"another digest", fresh, func(d *device) {
			if u, ok := booted(d); ok {
				u.pushAll(slices.Concat(img[:99], []byte{77}, img[100:]), 128)
			}
		}, []pair{{0, 0}, {1, 0}, {0, 5}}},
		{"a wrong URI", fresh, func(d *device) {
			if u, ok := booted(d); ok {
				u.SetURI("http://h/")
			}
		}, []pair{{0, 0}, {1, 0}, {0, 9}}},
		{"lost", fresh, func(d *device) {
			if u, ok := booted(d); ok {
				u.SetURI("coap://h/x")
				u.Lost(3)
			}
		}, []pair{{0, 0}, {1, 0}, {0, 3}}},
		{"a boot while it is delivered", started(1), func(d *device) { booted(d) }, []pair{{1, 0}, {0, 4}}},
		{"taken back", started(2), func(d *device) {
			if u, ok := booted(d); ok {
				u.SetURI("")
			}
		}, []pair{{2, 0}, {0, 0}}},
		{"spoilt", func(t *testing.T) *device {
			d, _ := in(t, 2)
			d.slot(1).Write(70, []byte{0})
			return d
		}, func(d *device) { booted(d) }, []pair{{2, 0}, {0, 5}}},
		{"not to be armed", func(t *testing.T) *device {
			d, _ := in(t, 2)
			d.slot(1).Write(70, []byte{0})
			return d
		}, func(d *device) {
			if u, e := d.try(); e == api.OK {
				u.Update()
			}
		}, []pair{{2, 0}, {3, 0}, {0, 8}}},
		{"run", started(3), func(d *device) { booted(d) }, []pair{{3, 0}, {0, 1}}},
		{"begun anew", started(1), func(d *device) {
			u, e := d.try()
			if e == api.OK {
				u.pushAll(img, 64)
			}
		}, []pair{{1, 0}, {0, 4}, {1, 0}, {2, 0}}},
	}
}

// P23.2, P23.3, P3: wherever the power goes, the pair is one of those that are led through, later ones behind later cuts, all of them are met; and a boot sets all right.
func TestCuts(t *testing.T) {
	for _, s := range scripts() {
		at := 0
		for i, p := range s.pairs {
			if i > 0 && !fsm.May(s.pairs[i-1][0], s.pairs[i-1][1], p[0], p[1]) {
				t.Errorf("%s: no edge leads to %v", s.what, p)
			}
		}
		for cut := 0; ; cut++ {
			d := s.begin(t)
			d.flash.Cut(cut)
			s.do(d)
			down := d.flash.Down()
			d.flash.Restore()
			u := d.look()
			now := pair{u.State(), u.Result()}
			turned := at+1 < len(s.pairs) && now == s.pairs[at+1]
			if turned {
				at++
			}
			if now != s.pairs[at] {
				t.Fatalf("%s, cut %d: %v behind %v", s.what, cut, now, s.pairs[at])
			}
			boots := 0 // that are cut: at all their bytes wherever something is new, at times elsewhere
			if turned || !down || cut%50 == 0 {
				boots = 60
			}
			setRight(t, d, now, boots)
			if t.Failed() {
				t.Fatalf("%s, cut %d", s.what, cut)
			}
			if !down {
				break
			}
		}
		if at+1 != len(s.pairs) {
			t.Errorf("%s: %v wasn't met", s.what, s.pairs[at+1:])
		}
	}
}

// setRight holds what a boot makes of a pair, and that it makes nothing more the next time; the power goes in so many of its boots, each time a byte later.
func setRight(t *testing.T, d *device, before pair, boots int) {
	t.Helper()
	image, images := d.flash.Image(), d.images.Image()
	var last pair
	for cut := -1; cut < boots; cut++ {
		d.flash.Load(image)
		d.images.Load(images)
		d.flash.Cut(cut)
		booted(d)
		d.flash.Restore()
		kept := d.look()
		if now := (pair{kept.State(), kept.Result()}); !fsm.May(before[0], before[1], now[0], now[1]) {
			t.Errorf("boot, cut %d: %v behind %v", cut, now, before)
		}
		u := d.boot()
		stands(t, u)
		now := pair{u.State(), u.Result()}
		if cut < 0 {
			last = now
		}
		// What is tried may be lost with the power; nothing else hangs on it.
		if now != last && (before != pair{3, 0} || now != pair{0, 8}) {
			t.Errorf("boot, cut %d: %v, want %v", cut, now, last)
		}
	}
	d.flash.Load(image)
	d.images.Load(images)
}

// stands holds what is so behind each boot.
func stands(t *testing.T, u up) {
	t.Helper()
	state, result := u.State(), u.Result()
	if state != 0 && state != 2 || !fsm.Right(state, result) {
		t.Errorf("behind a boot: %d, %d", state, result)
	}
	other, ok := u.s.Valid(u.s.Other())
	active, _ := u.s.Valid(u.s.Active())
	if state == 2 && (!ok || other.Version <= active.Version || u.s.Phase() != 0) {
		t.Errorf("in state 2: %v beside %v", other, active)
	}
	if (state == 0 && result == 1) != u.s.Same(u.s.Active(), made(2, 100)) {
		t.Errorf("in state %d with %d image %d is active", state, result, active.Version)
	}
	if u.s.Running() != u.s.Active() {
		t.Errorf("slot %d runs", u.s.Running())
	}
	u.wanted("behind a boot", -1)
}

// P23.2: where the slots' power goes while the journal's is there, nothing more is turned till a boot, whatever is called.
func TestDownApart(t *testing.T) {
	img := made(2, 100)
	for _, c := range []struct {
		what   string
		do     func(u up)
		state  int
		behind pair
	}{
		{"begun", func(u up) { u.Push(part0(64), img[:64]) }, 1, pair{0, 4}},
		{"pulled", func(u up) {
			u.SetURI("coap://h/x")
			u.Pulled(block.Block{More: true, Size: 64}, img[:64])
		}, 1, pair{0, 4}},
	} {
		for cut := range slotSize + 64 {
			d := apart(t, made(1, 3))
			u := d.boot()
			d.images.Cut(cut)
			c.do(u)
			if !d.images.Down() {
				t.Fatalf("%s, cut %d: still up", c.what, cut)
			}
			stays(t, u, c.state)
			u = d.boot()
			u.is(c.what, c.behind[0], c.behind[1])
			if t.Failed() {
				t.Fatalf("%s, cut %d", c.what, cut)
			}
		}
	}
	for cut := range 100 { // behind the head
		d := apart(t, made(1, 3))
		u := d.boot()
		u.Push(part0(64), img[:64])
		d.images.Cut(cut)
		u.Push(block.Block{Num: 1, More: true, Size: 64}, img[64:128])
		u.Push(block.Block{Num: 2, Size: 64}, img[128:])
		stays(t, u, 1)
		d.boot().is("written", 0, 4)
	}
	d := apart(t, made(1, 3))
	u := d.boot()
	u.Push(part0(64), img[:64])
	u.Push(block.Block{Num: 1, More: true, Size: 64}, img[64:128])
	u.Push(block.Block{Num: 4, More: true, Size: 32}, img[128:160])
	u.Push(block.Block{Num: 40, More: true, Size: 4}, img[160:])
	u.is("a size that may not be", 0, 4)
	u.answers("pushed", u.pushAll(img, 64), api.Changed)
	d.images.Cut(0)
	d.slot(0).Write(0, []byte{0}) // nobody but the slots knows that the power has gone
	if u.Update() {
		t.Error("an update without power")
	}
	stays(t, u, 3)
	d.boot().is("not armed", 0, 8)
}

// stays holds that nothing is turned by any call, though the journal's power is there, the slots' once more too.
func stays(t *testing.T, u up, state int) {
	t.Helper()
	before, _ := u.j.Get(1)
	uri, _ := u.j.Get(2)
	img := made(2, 100)
	for range 2 {
		u.Push(part0(64), img[:64])
		u.Push(block.Block{Num: 1, More: true, Size: 64}, img[64:128])
		u.Push(block.Block{Size: 64}, nil)
		u.SetURI("coap://h/other")
		u.SetURI("")
		u.SetURI("x")
		u.wanted("down", -1)
		u.Pulled(block.Block{More: true, Size: 64}, img[:64])
		u.Lost(5)
		u.Update()
	}
	after, _ := u.j.Get(1)
	now, _ := u.j.Get(2)
	if u.State() != state || !slices.Equal(before, after) || !slices.Equal(uri, now) {
		t.Errorf("turned: %v, then %v, %q", before, after, now)
	}
	if e := u.j.Put(30, nil); e != api.OK {
		t.Errorf("the journal's power: %d", e)
	}
}

// P23.2: a boot of the same object goes on where the power is there again.
func TestBootOfTheSame(t *testing.T) {
	d := apart(t, made(1, 3))
	u := d.boot()
	d.images.Cut(10)
	u.pushAll(made(2, 100), 64)
	d.images.Restore()
	u.Push(part0(64), made(2, 100)[:64])
	u.is("still down", 1, 0)
	u.s.Select()
	u.answers("Boot", int(u.Boot()), int(api.OK))
	u.is("Boot", 0, 4)
	u.answers("pushed", u.pushAll(made(2, 100), 64), api.Changed)
	u.is("pushed", 2, 0, 2)
	// A boot gives up what is being delivered, also where the object is the same.
	_, u = in(t, 1)
	u.s.Select()
	u.answers("Boot", int(u.Boot()), int(api.OK))
	u.is("Boot", 0, 4)
	u.answers("more of it", u.Push(block.Block{Num: 1, More: true, Size: 64}, made(2, 100)[64:128]), api.NotAllowed)
	_, u = pulling(t, made(2, 100), 1)
	u.answers("Boot", int(u.Boot()), int(api.OK))
	u.is("Boot", 0, 4)
	u.wanted("Boot", -1)
	if u.s.Got() != 0 {
		t.Error("it is still being written")
	}
}
