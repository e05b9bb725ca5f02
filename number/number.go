// Package number is layer 1: numbers in bytes, and bits of numbers. See shared/doc/01-number.md.
package number

import "reticule/api"

const (
	maxWidth = 8  // bytes of a uint64
	maxBits  = 64 // bits of a uint64
	blank    = ' '
)

// Big: a number of bytes, the highest one first.
func Big(b []byte, at, width int) (uint64, bool) {
	if !holds(len(b), at, width) {
		return 0, false
	}
	x := uint64(0)
	for i := range width {
		x = x<<8 | uint64(b[at+i])
	}
	return x, true
}

// Little: a number of bytes, the lowest one first.
func Little(b []byte, at, width int) (uint64, bool) {
	if !holds(len(b), at, width) {
		return 0, false
	}
	x := uint64(0)
	for i := range width {
		x |= uint64(b[at+i]) << (8 * i)
	}
	return x, true
}

// PutBig: a number as bytes, the highest one first.
func PutBig(x uint64, width int) []byte {
	if !isWidth(width) {
		return nil
	}
	b := make([]byte, width)
	for i := range width {
		b[width-1-i] = byte(x >> (8 * i))
	}
	return b
}

// PutLittle: a number as bytes, the lowest one first.
func PutLittle(x uint64, width int) []byte {
	if !isWidth(width) {
		return nil
	}
	b := make([]byte, width)
	for i := range width {
		b[i] = byte(x >> (8 * i))
	}
	return b
}

// Bits: some of a number.
func Bits(x uint64, from, n int) uint64 {
	if !areBits(from, n) {
		return 0
	}
	return x >> from & lowest(n)
}

// Set: a number with some bits another one's.
func Set(x uint64, from, n int, y uint64) uint64 {
	if !areBits(from, n) {
		return x
	}
	mask := lowest(n)
	return x&^(mask<<from) | (y&mask)<<from
}

// Text: so many bytes of a text.
func Text(s string, n int) []byte {
	if n < 0 || n > api.MaxBytes {
		return nil
	}
	b := make([]byte, n)
	for i := copy(b, s); i < n; i++ {
		b[i] = blank
	}
	return b
}

// isWidth: can a number be of so many bytes?
func isWidth(width int) bool {
	return width >= 1 && width <= maxWidth
}

// holds: do count bytes hold a number of that width from at on? The width is taken off, since a sum with any at could wrap round.
func holds(count, at, width int) bool {
	return isWidth(width) && at >= 0 && at <= count-width
}

// areBits: does a number have n bits from that one on? The n is taken off, since a sum with any from could wrap round.
func areBits(from, n int) bool {
	return n >= 1 && n <= maxBits && from >= 0 && from <= maxBits-n
}

// lowest: the n lowest bits, n from 1 to 64.
func lowest(n int) uint64 {
	return ^uint64(0) >> (maxBits - n)
}
