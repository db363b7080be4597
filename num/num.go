// Package num is layer 1: see shared/doc/01-num.md.
package num

import "math/bits"

// widest is how many bytes the greatest number has.
const widest = 8

// Put is the lowest bytes of a number.
func Put(n uint64, width int) []byte {
	width = within(width)
	b := make([]byte, width)
	switch width {
	case 8:
		b[7] = byte(n >> 56)
		fallthrough
	case 7:
		b[6] = byte(n >> 48)
		fallthrough
	case 6:
		b[5] = byte(n >> 40)
		fallthrough
	case 5:
		b[4] = byte(n >> 32)
		fallthrough
	case 4:
		b[3] = byte(n >> 24)
		fallthrough
	case 3:
		b[2] = byte(n >> 16)
		fallthrough
	case 2:
		b[1] = byte(n >> 8)
		fallthrough
	case 1:
		b[0] = byte(n)
	}
	return b
}

// Get is the number of bytes.
func Get(b []byte) uint64 {
	n := uint64(0)
	for i := range min(len(b), widest) {
		n |= uint64(b[i]) << (8 * i)
	}
	return n
}

// Var is a number's digits to the base 128.
func Var(n uint64) []byte {
	b := make([]byte, 0, Size(n))
	for n >= 128 {
		b = append(b, byte(n%128)+128)
		n /= 128
	}
	return append(b, byte(n))
}

// Size is how many bytes Var has.
func Size(n uint64) int {
	// 0 has a digit as well, though it has no bits
	return (bits.Len64(n|1) + 6) / 7
}

// within is the width that a width counts as.
func within(width int) int {
	return max(0, min(width, widest))
}
