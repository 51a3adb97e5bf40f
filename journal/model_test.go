package journal_test

import (
	"bytes"
	"encoding/binary"
	"hash/crc32"
	"slices"

	"outpost/api"
)

func ones(n int) []byte { return bytes.Repeat([]byte{255}, n) }

// rec is a record's bytes, mark and all; of size 254 without a value.
func rec(key, size byte, val ...byte) []byte {
	b := append([]byte{key, size}, val...)
	return append(binary.LittleEndian.AppendUint32(b, crc32.ChecksumIEEE(b)), 0)
}

// put is the record of a value, drop that of a key which is dropped.
func put(key int, val ...byte) []byte { return rec(byte(key), byte(len(val)), val...) }
func drop(key int) []byte             { return rec(byte(key), 254) }

// group is a group's bytes, filled up with 255.
func group(size int, mark byte, epoch uint32, recs ...[]byte) []byte {
	head := binary.LittleEndian.AppendUint32([]byte{mark}, epoch)
	b := slices.Concat(head, ones(3), slices.Concat(recs...))
	return append(b, ones(size-len(b))...)
}

// model is a journal that is written otherwise: its groups are lists of records, and all is looked for anew.
type model struct {
	sizes  [2]int
	whole  [2]bool
	epochs [2]uint32
	recs   [2][][]byte
	counts int
}

// newModel is one on erased groups.
func newModel(first, second int) *model {
	return &model{sizes: [2]int{first, second}, whole: [2]bool{true, false}, epochs: [2]uint32{1, 0}}
}

func (m *model) image() []byte {
	var all []byte
	for i, size := range m.sizes {
		if m.whole[i] {
			all = append(all, group(size, 0, m.epochs[i], m.recs[i]...)...)
		} else {
			all = append(all, ones(size)...)
		}
	}
	return all
}

// last is the record of a key that counts, nil if there is no value.
func (m *model) last(key int) []byte {
	var found []byte
	for _, r := range m.recs[m.counts] {
		if int(r[0]) == key {
			found = r
		}
	}
	if found == nil || found[1] == 254 {
		return nil
	}
	return found
}

func (m *model) get(key int) ([]byte, bool) {
	r := m.last(key)
	if r == nil {
		return nil, false
	}
	return r[2 : len(r)-5], true
}

func (m *model) keys() []int {
	var keys []int
	for key := range 256 {
		if m.last(key) != nil {
			keys = append(keys, key)
		}
	}
	return keys
}

func (m *model) room() int {
	return min(m.sizes[0], m.sizes[1]) - 8 - len(slices.Concat(m.recs[m.counts]...))
}

func (m *model) put(key int, val []byte) api.Errno {
	if key < 0 || key > 31 {
		return api.ErrArg
	}
	if len(val) > 250 {
		return api.ErrLong
	}
	if now, ok := m.get(key); ok && bytes.Equal(now, val) {
		return api.OK
	}
	return m.add(put(key, val...))
}

func (m *model) drop(key int) api.Errno {
	if key < 0 || key > 31 {
		return api.ErrArg
	}
	if m.last(key) == nil {
		return api.ErrNone
	}
	return m.add(drop(key))
}

func (m *model) add(r []byte) api.Errno {
	var next [][]byte
	for key := range 32 {
		now := m.last(key)
		if int(r[0]) == key {
			now = r
		}
		if now != nil && now[1] != 254 {
			next = append(next, now)
		}
	}
	switch {
	case 8+len(slices.Concat(next...)) > min(m.sizes[0], m.sizes[1]):
		return api.ErrFull
	case len(r) <= m.room():
		m.recs[m.counts] = append(slices.Clone(m.recs[m.counts]), r)
	case m.epochs[m.counts] == 1<<32-1:
		return api.ErrMany
	default:
		other := 1 - m.counts
		m.whole[other], m.epochs[other], m.recs[other], m.counts = true, m.epochs[m.counts]+1, next, other
	}
	return api.OK
}
