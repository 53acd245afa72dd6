// Package sum is layer 1: see shared/doc/01-sum.md.
package sum

import (
	"bytes"
	"math"

	"breviary/api"
)

// size is how many bytes a check sum has behind what it seals.
const size = 4

// turned is, for each four bits that go out of the register, what they turn in it:
// what comes of 3988292384 when these bits go out one by one.
var turned = [16]uint32{
	0x00000000, 0x1db71064, 0x3b6e20c8, 0x26d930ac,
	0x76dc4190, 0x6b6b51f4, 0x4db26158, 0x5005713c,
	0xedb88320, 0xf00f9344, 0xd6d6a3e8, 0xcb61b38c,
	0x9b64c2b0, 0x86d3d2d4, 0xa00ae278, 0xbdbdf21c,
}

// Sum is the check sum of bytes.
func Sum(b []byte) int { return next(0, b...) }

// More is the check sum of bytes behind those of another one.
func More(sum int, b []byte) (int, api.Errno) {
	if sum < 0 || sum > math.MaxUint32 {
		return 0, api.ErrRange
	}
	return next(uint32(sum), b...), api.OK
}

// next is the check sum of bytes behind those of a sum. At first the sum is 0, that of
// no bytes: its bits, turned, are the register's 1s.
func next(sum uint32, l ...byte) int { return int(^turn(^sum, l...)) }

// turn is the register behind bytes.
func turn(register uint32, l ...byte) uint32 {
each:
	for _, b := range l {
		register ^= uint32(b)
		for bits := 0; ; bits += 4 {
			if bits == 8 {
				continue each
			}
			register = register>>4 ^ turned[register&15]
		}
	}
	return register
}

// Seal is bytes with their check sum behind.
func Seal(b []byte) []byte {
	n := Sum(b)
	// The room is new: an append to b could write behind its length.
	sealed := append(make([]byte, 0, len(b)+size), b...)
	return append(sealed, byte(n), byte(n>>8), byte(n>>16), byte(n>>24))
}

// Open is the bytes that were sealed.
func Open(b []byte) ([]byte, api.Errno) {
	if len(b) < size {
		return nil, api.ErrForm
	}
	n := len(b) - size
	sealed := Seal(b[:n])
	if !bytes.Equal(sealed, b) {
		return nil, api.ErrSum
	}
	return sealed[:n], api.OK
}
