// Package sha is layer 1, SHA-256: see shared/doc/01-sha.md.
package sha

import (
	"math/bits"

	"outpost/api"
)

const (
	blockSize  = 64 // bytes that are mixed at once
	lengthSize = 8  // bytes in which the ending tells how many bits there were
)

// rounds are the first 32 bits behind the point of the cube roots of the first 64 primes.
var rounds = [64]uint32{
	0x428a2f98, 0x71374491, 0xb5c0fbcf, 0xe9b5dba5, 0x3956c25b, 0x59f111f1, 0x923f82a4, 0xab1c5ed5,
	0xd807aa98, 0x12835b01, 0x243185be, 0x550c7dc3, 0x72be5d74, 0x80deb1fe, 0x9bdc06a7, 0xc19bf174,
	0xe49b69c1, 0xefbe4786, 0x0fc19dc6, 0x240ca1cc, 0x2de92c6f, 0x4a7484aa, 0x5cb0a9dc, 0x76f988da,
	0x983e5152, 0xa831c66d, 0xb00327c8, 0xbf597fc7, 0xc6e00bf3, 0xd5a79147, 0x06ca6351, 0x14292967,
	0x27b70a85, 0x2e1b2138, 0x4d2c6dfc, 0x53380d13, 0x650a7354, 0x766a0abb, 0x81c2c92e, 0x92722c85,
	0xa2bfe8a1, 0xa81a664b, 0xc24b8b70, 0xc76c51a3, 0xd192e819, 0xd6990624, 0xf40e3585, 0x106aa070,
	0x19a4c116, 0x1e376c08, 0x2748774c, 0x34b0bcb5, 0x391c0cb3, 0x4ed8aa4a, 0x5b9cca4f, 0x682e6ff3,
	0x748f82ee, 0x78a5636f, 0x84c87814, 0x8cc70208, 0x90befffa, 0xa4506ceb, 0xbef9a3f7, 0xc67178f2,
}

// Hash is a digest that is being made. It holds arrays alone, so that a copy of it shares nothing with it.
type Hash struct {
	words  [8]uint32
	rest   [blockSize]byte // what came behind the last whole block
	length int64
}

// New is a digest of nothing.
func New() *Hash {
	// The first 32 bits behind the point of the square roots of the first eight primes.
	return &Hash{words: [8]uint32{0x6a09e667, 0xbb67ae85, 0x3c6ef372, 0xa54ff53a, 0x510e527f, 0x9b05688c, 0x1f83d9ab, 0x5be0cd19}}
}

// Len is how many bytes there were.
func (h *Hash) Len() int64 { return h.length }

// Clone is another digest that goes on from the same.
func (h *Hash) Clone() *Hash {
	other := *h
	return &other
}

// Write takes more bytes.
func (h *Hash) Write(b []byte) {
	waiting := int(h.length % blockSize)
	h.length += int64(len(b))
	if waiting > 0 {
		taken := copy(h.rest[waiting:], b)
		if waiting+taken < blockSize {
			return
		}
		h.words = mix(h.words, h.rest[:])
		b = b[taken:]
	}
	for len(b) >= blockSize {
		h.words = mix(h.words, b[:blockSize])
		b = b[blockSize:]
	}
	copy(h.rest[:], b)
}

// Sum is the digest of all bytes so far.
func (h *Hash) Sum() [32]byte {
	// The ending goes into a copy, for more bytes may follow in h.
	last := *h
	last.Write(ending(h.length))
	var d [32]byte
	for i, w := range last.words {
		d[4*i], d[4*i+1], d[4*i+2], d[4*i+3] = byte(w>>24), byte(w>>16), byte(w>>8), byte(w)
	}
	return d
}

// Sum is the digest of all parts, one behind the other.
func Sum(parts ...[]byte) [32]byte {
	h := New()
	for _, b := range parts {
		h.Write(b)
	}
	return h.Sum()
}

// ending is what follows so many bytes, so that all together are whole blocks.
func ending(length int64) []byte {
	used := int(length%blockSize) + 1 + lengthSize
	zeros := (2*blockSize - used) % blockSize
	end := make([]byte, 1+zeros, 1+zeros+lengthSize)
	end[0] = 128
	count := uint64(length) * 8
	for i := range lengthSize {
		end = append(end, byte(count>>(8*(lengthSize-1-i))))
	}
	return end
}

// schedule are the words of a block, one for each round.
func schedule(block []byte) [64]uint32 {
	var w [64]uint32
	for i := range 16 {
		w[i] = uint32(block[4*i])<<24 | uint32(block[4*i+1])<<16 | uint32(block[4*i+2])<<8 | uint32(block[4*i+3])
	}
	for i := 16; i < len(w); i++ {
		s0 := turn(w[i-15], 7) ^ turn(w[i-15], 18) ^ w[i-15]>>3
		s1 := turn(w[i-2], 17) ^ turn(w[i-2], 19) ^ w[i-2]>>10
		w[i] = w[i-16] + s0 + w[i-7] + s1
	}
	return w
}

// mix are the eight words behind a block.
func mix(words [8]uint32, block []byte) [8]uint32 {
	w := schedule(block)
	a, b, c, d, e, f, g, h := words[0], words[1], words[2], words[3], words[4], words[5], words[6], words[7]
	for i := range 64 {
		t1 := h + (turn(e, 6) ^ turn(e, 11) ^ turn(e, 25)) + (e&f ^ ^e&g) + rounds[i] + w[i]
		t2 := (turn(a, 2) ^ turn(a, 13) ^ turn(a, 22)) + (a&b ^ a&c ^ b&c)
		h, g, f, e, d, c, b, a = g, f, e, d+t1, c, b, a, t1+t2
	}
	for i, x := range [8]uint32{a, b, c, d, e, f, g, h} {
		words[i] += x
	}
	return words
}

// turn is a word turned right by n bits.
func turn(w uint32, n int) uint32 { return bits.RotateLeft32(w, -n) }

// Hex is a digest as 64 digits.
func Hex(d [32]byte) string {
	const digits = "0123456789abcdef"
	text := make([]byte, 0, 2*len(d))
	for _, b := range d {
		text = append(text, digits[b>>4], digits[b&15])
	}
	return string(text)
}

// Parse is the digest of 64 digits.
func Parse(s string) ([32]byte, api.Errno) {
	var d [32]byte
	if len(s) != 2*len(d) {
		return d, api.ErrForm
	}
	for i, r := range s {
		n, ok := digit(r)
		if !ok {
			return [32]byte{}, api.ErrForm
		}
		d[i/2] = d[i/2]<<4 | n
	}
	return d, api.OK
}

// digit is the four bits that a sign stands for.
func digit(r rune) (byte, bool) {
	switch {
	case '0' <= r && r <= '9':
		return byte(r - '0'), true
	case 'a' <= r && r <= 'f':
		return byte(r-'a') + 10, true
	case 'A' <= r && r <= 'F':
		return byte(r-'A') + 10, true
	}
	return 0, false
}
