// Package crc is layer 2, a check sum of 32 bits: see shared/doc/02-crc.md.
package crc

const (
	polynomial = 0xEDB88320
	sumSize    = 4 // bytes of a sum that stands behind others
)

// Extend is the sum of the bytes whose sum it is, and of b behind them.
func Extend(sum uint32, b []byte) uint32 {
	register := ^sum
	for _, x := range b {
		register ^= uint32(x)
		for range 8 {
			out := register & 1
			// out is 0 or 1, so -out has no bit or all of them: no branch, which would be guessed wrong every other time.
			register = register>>1 ^ polynomial&-out
		}
	}
	return ^register
}

// Sum is the sum of bytes.
func Sum(b []byte) uint32 { return Extend(0, b) }

// Seal is bytes with their sum behind.
func Seal(b []byte) []byte { return Put32(b, Sum(b)) }

// Open is what stands ahead of its sum.
func Open(b []byte) ([]byte, bool) {
	end := len(b) - sumSize
	if end < 0 {
		return nil, false
	}
	if sum, _ := Get32(b[end:]); sum != Sum(b[:end]) {
		return nil, false
	}
	return withRoom(b[:end], 0), true
}

// Put32 is bytes with a number of four bytes behind.
func Put32(b []byte, n uint32) []byte {
	return append(withRoom(b, 4), byte(n), byte(n>>8), byte(n>>16), byte(n>>24))
}

// Get32 is the number of the first four bytes.
func Get32(b []byte) (uint32, bool) {
	if len(b) < 4 {
		return 0, false
	}
	return uint32(b[0]) | uint32(b[1])<<8 | uint32(b[2])<<16 | uint32(b[3])<<24, true
}

// Put16 is bytes with a number's lowest two bytes behind.
func Put16(b []byte, n int) []byte {
	return append(withRoom(b, 2), byte(n), byte(n>>8))
}

// Get16 is the number of the first two bytes.
func Get16(b []byte) (int, bool) {
	if len(b) < 2 {
		return 0, false
	}
	return int(b[0]) | int(b[1])<<8, true
}

// withRoom is a copy of bytes with room for more behind: an append to b itself could write over what its owner has there.
func withRoom(b []byte, more int) []byte {
	return append(make([]byte, 0, len(b)+more), b...)
}
