package fw

import (
	"outpost/api"
	"outpost/block"
	"outpost/fsm"
	"outpost/image"
)

// mostCome is far more than a slot has room for: what comes is bounded by its head alone.
const mostCome = 1 << 20

// expect lets something be delivered from now on.
func (f *Fw) expect(way int) { f.way, f.come = way, block.NewJoin(mostCome) }

// end lets nothing be delivered any more.
func (f *Fw) end() {
	if f.way != notAtAll {
		f.images().Stop()
	}
	f.way, f.come = notAtAll, nil
}

// fail gives up what is being delivered, with a result.
func (f *Fw) fail(result int) {
	f.end()
	f.turn(fsm.Fail, result, 0)
}

// take takes up the data of a block that has come; the result with which that failed.
func (f *Fw) take(b block.Block, data []byte) int {
	result := f.add(data)
	if result == api.ResNone && !b.More {
		result = f.finish()
	}
	if result != api.ResNone {
		f.fail(result)
	}
	return result
}

// add writes data, the latest that has come, into the slot, as soon as the whole head is there.
func (f *Fw) add(data []byte) int {
	got := f.come.Got()
	switch {
	case got-len(data) >= api.HeadSize:
		return f.write(data)
	case got < api.HeadSize:
		return api.ResNone
	}
	all := f.come.Bytes()
	if result := f.begin(all[:api.HeadSize]); result != api.ResNone {
		return result
	}
	return f.write(all[api.HeadSize:])
}

// begin begins an image with its head.
func (f *Fw) begin(head []byte) int {
	h, e := image.Read(head)
	if e != api.OK {
		return api.ResType
	}
	switch f.heard(f.images().Begin(api.HeadSize + h.Size)) {
	case api.OK:
		return f.write(head)
	case api.ErrSize:
		return api.ResSpace
	}
	return api.ResCheck
}

// write writes what comes next of an image.
func (f *Fw) write(b []byte) int {
	if f.heard(f.images().Write(b)) != api.OK {
		return api.ResCheck
	}
	return api.ResNone
}

// finish looks at an image of which the last block has come.
func (f *Fw) finish() int {
	if f.come.Got() < api.HeadSize {
		return api.ResType
	}
	h, e := f.images().Finish()
	switch f.heard(e) {
	case api.OK:
	case api.ErrVersion:
		return api.ResType
	default:
		return api.ResCheck
	}
	if f.turn(fsm.Done, api.ResNone, h.Version) != api.OK {
		return api.ResCheck
	}
	f.end()
	return api.ResNone
}
