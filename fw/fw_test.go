package fw_test

import (
	"math"
	"testing"

	"outpost/api"
	"outpost/block"
	"outpost/flash"
	"outpost/fw"
	"outpost/image"
	"outpost/journal"
	"outpost/part"
	"outpost/slots"
)

// P23.1: the chapter's own example.
func TestExample(t *testing.T) {
	d := newDevice(t, made(1, 3))
	u := d.boot()
	img := made(2, 36)
	u.answers("block 0", u.Push(block.Block{Num: 0, More: true, Size: 64}, img[:64]), 95)
	u.is("block 0", 1, 0)
	u.answers("block 1", u.Push(block.Block{Num: 1, Size: 64}, img[64:]), 68)
	u.is("block 1", 2, 0, 2)
	if !u.Update() {
		t.Error("no update")
	}
	u.is("Update", 3, 0, 2)
	u = d.boot()
	u.is("booted", 0, 1)
	if u.s.Active() != 1 || u.s.Running() != 1 || u.s.Phase() != 0 || !u.s.Same(1, img) {
		t.Error("it doesn't run")
	}
	u = d.boot()
	u.is("booted once more", 0, 1)
}

// P23.1: what is kept, as it counts; New turns nothing.
func TestWhatIsKept(t *testing.T) {
	for state := range 6 {
		for result := range 12 {
			d := newDevice(t, made(1, 3)).keeping(1, byte(state), byte(result), 9, 0, 0, 0)
			u := d.look()
			want := [2]int{}
			if state == 0 && result < 10 || state < 4 && result == 0 {
				want = [2]int{state, result}
			}
			if got := [2]int{u.State(), u.Result()}; got != want {
				t.Errorf("of %d, %d: %v", state, result, got)
			}
		}
	}
	for _, val := range [][]byte{{}, {2}, {0, 7}, {0, 7, 0, 0, 0}, {2, 0, 1, 0, 0}, {2, 0, 1, 0, 0, 0, 0}, make([]byte, 150), {255, 255, 255, 255, 255, 255}, {0, 255, 0, 0, 0, 0}} {
		u := newDevice(t, made(1, 3)).keeping(1, val...).look()
		if u.State() != 0 || u.Result() != 0 {
			t.Errorf("of %v: %d, %d", val, u.State(), u.Result())
		}
	}
	u := newDevice(t, made(1, 3)).look()
	u.is("nothing", 0, 0)
	if u.URI() != "" || u.Name() != "" || u.Version() != "" || u.Method() != 2 {
		t.Errorf("%q, %q, %q, %d", u.URI(), u.Name(), u.Version(), u.Method())
	}
	u.wanted("nothing", -1)
	u = newDevice(t, made(1, 3)).keeping(2, []byte("coap://h/")...).look()
	if u.URI() != "coap://h/" {
		t.Errorf("URI %q", u.URI())
	}
	// What is asked is what is kept, also by another object.
	d := newDevice(t, made(1, 3))
	u = d.boot()
	u.SetURI("http://h/")
	if other := fw.New(u.s, u.j); other.URI() != "http://h/" || other.State() != 0 || other.Result() != 9 {
		t.Errorf("%q, %d, %d", other.URI(), other.State(), other.Result())
	}
}

// P23.1, P23.2: a boot from each state that is kept, with what is in the slots.
func TestBoot(t *testing.T) {
	one, two, none := made(1, 3), made(2, 100), []byte(nil)
	spoilt := made(2, 100)
	spoilt[80]++
	for i, c := range []struct {
		other         []byte
		phase         []byte // what layer 7 keeps: the active slot and the phase
		kept          []byte
		state, result int
		version       byte
		active        int
	}{
		{none, nil, nil, 0, 0, 0, 0},
		{two, nil, []byte{0, 7, 0, 0, 0, 0}, 0, 7, 0, 0},
		{two, nil, []byte{1, 0, 0, 0, 0, 0}, 0, 4, 0, 0},
		{none, nil, []byte{1, 0, 2, 0, 0, 0}, 0, 4, 0, 0},
		{two, nil, []byte{2, 0, 2, 0, 0, 0}, 2, 0, 2, 0},
		{two, nil, []byte{2, 0, 3, 0, 0, 0}, 0, 5, 0, 0},
		{two, nil, []byte{2, 0, 2, 1, 0, 0}, 0, 5, 0, 0},
		{two, nil, []byte{2, 0, 2, 0, 0, 1}, 0, 5, 0, 0},
		{two, nil, []byte{2, 0, 1, 0, 0, 0}, 0, 5, 0, 0}, // the active slot's isn't the other's
		{none, nil, []byte{2, 0, 2, 0, 0, 0}, 0, 5, 0, 0},
		{none, nil, []byte{2, 0, 0, 0, 0, 0}, 0, 5, 0, 0},
		{spoilt, nil, []byte{2, 0, 2, 0, 0, 0}, 0, 5, 0, 0},
		{two, []byte{0, 0}, []byte{3, 0, 2, 0, 0, 0}, 0, 8, 0, 0}, // it was never armed
		{two, []byte{0, 1}, []byte{3, 0, 2, 0, 0, 0}, 0, 1, 0, 1},
		{two, []byte{0, 2}, []byte{3, 0, 2, 0, 0, 0}, 0, 8, 0, 0}, // it ran once
		{two, []byte{1, 0}, []byte{3, 0, 2, 0, 0, 0}, 0, 1, 0, 1}, // confirmed already
		{two, []byte{0, 1}, []byte{3, 0, 3, 0, 0, 0}, 0, 8, 0, 0},
		{none, []byte{0, 1}, []byte{3, 0, 2, 0, 0, 0}, 0, 8, 0, 0},
		{spoilt, []byte{0, 1}, []byte{3, 0, 2, 0, 0, 0}, 0, 8, 0, 0},
		{spoilt, []byte{1, 0}, []byte{3, 0, 2, 0, 0, 0}, 0, 8, 0, 0},
		{two, []byte{0, 1}, []byte{0, 0, 0, 0, 0, 0}, 0, 0, 0, 0}, // armed by somebody else
	} {
		d := newDevice(t, one, c.other)
		if c.phase != nil {
			d.keeping(0, c.phase...)
		}
		if c.kept != nil {
			d.keeping(1, c.kept...)
		}
		u := d.boot()
		u.is("booted", c.state, c.result, c.version)
		u.wanted("booted", -1)
		if u.s.Active() != c.active {
			t.Errorf("slot %d is active", u.s.Active())
		}
		u = d.boot()
		u.is("booted once more", c.state, c.result, c.version)
		if t.Failed() {
			t.Fatalf("case %d", i)
		}
	}
}

// P23.1: where nothing runs, what was to run is bad.
func TestBootOfNothing(t *testing.T) {
	for state, result := range map[byte]int{1: 4, 2: 5, 3: 8} {
		d := newDevice(t).keeping(1, state, 0, 2, 0, 0, 0)
		u := d.look()
		if _, e := u.s.Select(); e != api.ErrNone {
			t.Errorf("Select: %d", e)
		}
		if e := u.Boot(); e != api.OK {
			t.Errorf("Boot: %d", e)
		}
		u.is("booted", 0, result)
	}
}

// P23.1: a boot answers the slots' error and the journal's, and then turns nothing.
func TestBootErrors(t *testing.T) {
	// Ahead of Select the slot that runs is the active one, so nothing can be confirmed.
	d := newDevice(t, made(2, 3), made(1, 3)).keeping(0, 0, 2).keeping(1, 3, 0, 2, 0, 0, 0)
	u := d.look()
	u.answers("Boot", int(u.Boot()), int(api.ErrState))
	u.is("not confirmed", 3, 0, 2)
	for state := byte(1); state < 4; state++ {
		d := newDevice(t, made(1, 3)).keeping(1, state, 0, 2, 0, 0, 0)
		u := d.look()
		d.flash.Cut(0)
		u.answers("Boot", int(u.Boot()), int(api.ErrDown))
		u.is("down", int(state), 0, 2)
	}
	// A journal of the last epoch, in which there is no room for a record more.
	for state := byte(1); state < 4; state++ {
		u := full(t, state)
		u.answers("Boot", int(u.Boot()), int(api.ErrMany))
		u.is("full", int(state), 0, 2)
	}
}

// full is a device in whose journal nothing can be turned any more, with a state that is kept.
func full(t *testing.T, state byte) up {
	t.Helper()
	d := newDevice(t, made(1, 3)).keeping(1, state, 0, 2, 0, 0, 0)
	group, e := d.a.Read(0, d.a.Size())
	if e != api.OK {
		t.Fatal(e)
	}
	copy(group[1:5], []byte{255, 255, 255, 255})
	f := flash.New(18, sector)
	f.Load(group)
	d.flash, d.images = f, f
	d.lay(6, [][]byte{made(1, 3)})
	j := d.open()
	for n := byte(0); j.Room() >= 13; n++ { // bytes of a record of what is kept
		if e := j.Put(3, []byte{n}); e != api.OK {
			t.Fatal(e)
		}
	}
	return d.look()
}

// P23.1: where the journal has no room, nothing is begun.
func TestNoRoomToKeep(t *testing.T) {
	f := flash.New(14, 32)
	a, _ := part.New(f, 0, 1)
	b, _ := part.New(f, 1, 1)
	first, _ := part.New(f, 2, 6)
	second, _ := part.New(f, 8, 6)
	first.Write(0, made(1, 3))
	// Of 32 bytes a group's head has 8, and each record 7 beside its value.
	j, _ := journal.Open(a, b)
	s := slots.New(first, second, j)
	u := up{fw.New(s, j), t, s, j}
	j.Put(3, make([]byte, 5))
	u.answers("Boot", int(u.Boot()), int(api.OK))
	u.answers("Push", u.Push(part0(64), made(2, 100)[:64]), api.TooLarge)
	u.is("Push", 0, 0)
	u.answers("more of it", u.Push(block.Block{Num: 1, Size: 64}, nil), api.NotAllowed)
	u.answers("SetURI", u.SetURI("coap://h/x"), api.TooLarge)
	u.is("SetURI", 0, 0)
	u.wanted("SetURI", -1)
	if u.URI() != "" || u.Update() {
		t.Error("kept all the same")
	}
	// With room for the pair alone a package is taken up, and a URI isn't; that there is none needs no room.
	j.Put(3, make([]byte, 4))
	u.answers("Push", u.pushAll(made(2, 100), 64), api.Changed)
	u.is("Push", 2, 0, 2)
	u.answers("SetURI of none", u.SetURI(""), api.Changed)
	u.is("SetURI of none", 0, 0)
	u.answers("SetURI", u.SetURI("coap://h/x"), api.TooLarge)
	u.is("SetURI", 0, 0)
	u.wanted("SetURI", -1)

	for state := byte(1); state < 3; state++ {
		u := full(t, state)
		u.answers("taken back", u.Push(block.Block{Size: 16}, nil), api.TooLarge)
		u.answers("SetURI of none", u.SetURI(""), api.TooLarge)
		if u.Update() {
			t.Error("an update that isn't kept")
		}
		u.is("full", int(state), 0, 2)
	}
}

// P23.1: the name and the version of what is to run.
func TestNameAndVersion(t *testing.T) {
	d := newDevice(t, made(1, 3))
	u := d.boot()
	img, _ := image.Make("z.9-_", math.MaxUint32, []byte("two"))
	tells := func(what, name, version string) {
		t.Helper()
		if u.Name() != name || u.Version() != version || u.Method() != 2 {
			t.Errorf("%s: %q, %q, %d", what, u.Name(), u.Version(), u.Method())
		}
	}
	u.Push(part0(64), img[:64])
	tells("state 1", "", "")
	u.answers("pushed", u.Push(block.Block{Num: 1, Size: 64}, img[64:]), api.Changed)
	tells("state 2", "z.9-_", "4294967295")
	u.Update()
	tells("state 3", "z.9-_", "4294967295")
	u = d.look()
	u.s.Select() // it runs, and isn't active yet
	tells("state 3, selected", "z.9-_", "4294967295")
	u = d.boot()
	tells("state 0", "", "")
	d, u = in(t, 2)
	tells("state 2", "new", "2")
	d.slot(1).Write(70, []byte{0})
	tells("spoilt", "", "")
	u.answers("taken back", u.SetURI(""), api.Changed)
	tells("taken back", "", "")
	old := newDevice(t, made(1, 3), made(0, 3)).keeping(1, 2, 0, 0, 0, 0, 0).boot()
	if old.Version() != "0" || old.Name() != "new" {
		t.Errorf("version %q", old.Version())
	}
}

// P23.1, P23.2: Update in each state.
func TestUpdate(t *testing.T) {
	for _, state := range []int{0, 1, 3} {
		_, u := in(t, state)
		before := []byte{byte(2 * (state / 3))}
		if u.Update() {
			t.Errorf("in state %d", state)
		}
		u.is("Update", state, 0, before...)
	}
	d, u := in(t, 2)
	if !u.Update() || u.s.Phase() != 1 {
		t.Error("in state 2")
	}
	u.is("Update", 3, 0, 2)
	if u.Update() {
		t.Error("in state 3")
	}
	// What can't be armed is bad.
	d, u = in(t, 2)
	d.slot(1).Write(70, []byte{0})
	if u.Update() || u.s.Phase() != 0 {
		t.Error("the other slot is spoilt")
	}
	u.is("spoilt", 0, 8)
	d, u = in(t, 2)
	u.s.Arm()
	if u.Update() {
		t.Error("armed already")
	}
	u.is("armed already", 0, 8)
	// Unless it is armed, the old image runs.
	d = newDevice(t, made(1, 3), made(2, 3)).keeping(1, 3, 0, 2, 0, 0, 0)
	u = d.boot()
	u.is("not armed", 0, 8)
	if u.s.Running() != 0 {
		t.Error("it runs")
	}
}

// P23.1, P23.3: an image that doesn't last till it is confirmed is bad, and the old one runs.
func TestATrialThatFails(t *testing.T) {
	d, u := in(t, 3)
	u = d.look()
	if n, e := u.s.Select(); n != 1 || e != api.OK {
		t.Errorf("Select: %d, %d", n, e)
	}
	u = d.boot()
	u.is("not confirmed", 0, 8)
	if u.s.Running() != 0 || u.s.Active() != 0 || u.s.Phase() != 0 {
		t.Error("the new one runs")
	}
	u.answers("once more", u.pushAll(made(2, 100), 64), api.Changed)
	u.Update()
	u = d.boot()
	u.is("once more", 0, 1)
	if !u.s.Same(u.s.Active(), made(2, 100)) {
		t.Error("it doesn't run")
	}
}

// P1: what New didn't make, and what has no slots or no journal, ends all calls, and panics in none.
func TestWhatIsNotThere(t *testing.T) {
	d := newDevice(t, made(1, 3))
	u := d.look()
	for i, f := range []*fw.Fw{{}, fw.New(nil, nil), fw.New(u.s, nil), fw.New(nil, u.j), fw.New(&slots.Slots{}, &journal.Journal{}), fw.New(slots.New(nil, nil, nil), u.j), fw.New(slots.New(d.c, nil, u.j), u.j), u.Fw} {
		for range 2 {
			for _, n := range []int{math.MinInt, -1, 0, 1, 1 << 20, math.MaxInt} {
				for _, size := range []int{math.MinInt, 0, 16, 64, 1024, math.MaxInt} {
					for _, data := range [][]byte{nil, made(2, 3), made(2, 100)[:64]} {
						f.Push(block.Block{Num: n, Size: size}, data)
						f.Push(block.Block{Num: n, More: true, Size: size}, data)
						f.Pulled(block.Block{Num: n, Size: size}, data)
						f.Pulled(block.Block{Num: n, More: true, Size: size}, data)
						f.Wants()
					}
				}
				f.Lost(n)
			}
			f.SetURI("coap://h/x")
			f.Pulled(block.Block{More: true, Size: 64}, made(2, 100)[:64])
			f.Update()
			if f.Boot() != api.OK && i < 5 {
				t.Errorf("case %d: Boot", i)
			}
			f.SetURI("")
			if s, r := f.State(), f.Result(); i < 5 && (s != 0 || r != 0 && r != 2 && r != 4) || len(f.URI()+f.Name()+f.Version()) > 0 || f.Method() != 2 {
				t.Errorf("case %d: %d, %d", i, s, r)
			}
		}
	}
}
