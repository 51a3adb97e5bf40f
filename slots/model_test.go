package slots_test

import (
	"bytes"
	"crypto/sha256"
	"encoding/binary"
	"hash/crc32"
	"slices"

	"outpost/api"
	"outpost/image"
)

func ones(n int) []byte { return bytes.Repeat([]byte{255}, n) }

// raw is an image's head, made otherwise than layer 6 does, and what is behind it.
func raw(version, size uint32, digest [32]byte, body []byte) []byte {
	b := binary.LittleEndian.AppendUint32([]byte("OTPX"), version)
	b = binary.LittleEndian.AppendUint32(b, size)
	b = append(append(b, "app"...), make([]byte, 13)...)
	b = append(b, digest[:]...)
	return append(binary.LittleEndian.AppendUint32(b, crc32.ChecksumIEEE(b)), body...)
}

// whole is an image of a body.
func whole(version uint32, body string) []byte {
	return raw(version, uint32(len(body)), sha256.Sum256([]byte(body)), []byte(body))
}

// valid is the whole image with which a slot's bytes begin, nil if they begin with none.
func valid(b []byte) []byte {
	if len(b) < 64 || string(b[:4]) != "OTPX" || crc32.ChecksumIEEE(b[:60]) != binary.LittleEndian.Uint32(b[60:]) {
		return nil
	}
	size := int(binary.LittleEndian.Uint32(b[8:]))
	if size > len(b)-64 || sha256.Sum256(b[64:64+size]) != [32]byte(b[28:60]) {
		return nil
	}
	return b[:64+size]
}

func versionOf(b []byte) uint32 { return binary.LittleEndian.Uint32(b[4:]) }

// model is two slots that are written otherwise: their bytes and what has come are lists, and all is looked for anew.
type model struct {
	slots         [2][]byte
	active, phase int
	running       int
	writing       bool
	size          int
	come          []byte
}

func (m *model) valid(slot int) []byte {
	if slot != 0 && slot != 1 {
		return nil
	}
	return valid(m.slots[slot])
}

func (m *model) boot() {
	m.running = m.active
	m.stop()
}

func (m *model) stop() { m.writing, m.size, m.come = false, 0, nil }

func (m *model) begin(size int) api.Errno {
	m.stop()
	other := 1 - m.active
	switch {
	case m.phase != 0:
		return api.ErrState
	case size < 64 || size > len(m.slots[other]):
		return api.ErrSize
	}
	m.slots[other] = ones(len(m.slots[other]))
	m.writing, m.size = true, size
	return api.OK
}

func (m *model) write(b []byte) api.Errno {
	if !m.writing {
		return api.ErrState
	}
	if len(m.come)+len(b) > m.size {
		return api.ErrLong
	}
	had := len(m.come)
	m.come = slices.Concat(m.come, b)
	copy(m.slots[1-m.active], m.come)
	if had >= 64 || len(m.come) < 64 {
		return api.OK
	}
	e := wrongHead(m.come[:64], m.size)
	if e != api.OK {
		m.stop()
	}
	return e
}

// wrongHead is what is wrong with the head of an image of so many bytes.
func wrongHead(b []byte, size int) api.Errno {
	told := binary.LittleEndian.Uint32(b[8:])
	switch {
	case string(b[:4]) != "OTPX":
		return api.ErrMagic
	case crc32.ChecksumIEEE(b[:60]) != binary.LittleEndian.Uint32(b[60:]):
		return api.ErrSum
	case told > 1<<20 || string(b[12:28]) != "app"+string(make([]byte, 13)):
		return api.ErrForm
	case int(told)+64 != size:
		return api.ErrSize
	}
	return api.OK
}

func (m *model) finish() (image.Head, api.Errno) {
	if !m.writing {
		return image.Head{}, api.ErrState
	}
	if len(m.come) < m.size {
		return image.Head{}, api.ErrSize
	}
	b := m.come
	m.stop()
	if sha256.Sum256(b[64:]) != [32]byte(b[28:60]) {
		return image.Head{}, api.ErrSum
	}
	if now := m.valid(m.active); now != nil && versionOf(b) <= versionOf(now) {
		return image.Head{}, api.ErrVersion
	}
	return headOf(b), api.OK
}

// headOf is the head of an image that raw made.
func headOf(b []byte) image.Head {
	return image.Head{Version: versionOf(b), Size: len(b) - 64, Name: "app", Digest: [32]byte(b[28:60])}
}

func (m *model) arm() api.Errno {
	switch {
	case m.phase != 0 || m.writing:
		return api.ErrState
	case m.valid(1-m.active) == nil:
		return api.ErrNone
	}
	m.phase = 1
	return api.OK
}

func (m *model) choose() (int, api.Errno) {
	m.stop()
	if m.phase == 1 && m.valid(1-m.active) != nil {
		m.phase, m.running = 2, 1-m.active
		return m.running, api.OK
	}
	for _, slot := range []int{m.active, 1 - m.active} {
		if m.valid(slot) != nil {
			m.active, m.phase, m.running = slot, 0, slot
			return slot, api.OK
		}
	}
	return 0, api.ErrNone
}

func (m *model) confirm() api.Errno {
	if m.phase != 2 || m.running == m.active {
		return api.ErrState
	}
	m.active, m.phase = m.running, 0
	return api.OK
}
