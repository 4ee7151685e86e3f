// Package word is layer 1: numbers, powers and bytes.
package word

import (
	"millstream/api"
)

// greatest is the greatest power.
const greatest = int64(1) << 62

// IsPower asks whether a number is a power.
func IsPower(n int64) bool { return n > 0 && n&(n-1) == 0 }

// Log2 is of which power of 2 a number is one.
func Log2(n int64) (int, bool) {
	if !IsPower(n) {
		return 0, false
	}
	k := 0
	for n > 1 {
		n >>= 1
		k++
	}
	return k, true
}

// Align is the next multiple.
func Align(n, to int64) (int64, api.Errno) {
	if !IsPower(to) || n < 0 || n > greatest {
		return 0, api.ErrArg
	}
	// Both are at most 2^62, so the sum doesn't go round.
	v := (n + to - 1) &^ (to - 1)
	if v > greatest {
		return 0, api.ErrRange
	}
	return v, api.OK
}

// Mask is what is left of a number.
func Mask(n, to int64) int64 {
	if !IsPower(to) {
		return 0
	}
	return n & (to - 1)
}

// Bytes are the lowest bytes of a number.
func Bytes(v uint64, n int) []byte {
	if n < 0 || n > 8 {
		return nil
	}
	b := make([]byte, n)
	for i := range n {
		b[i] = byte(v >> (8 * i))
	}
	return b
}

// Number is the number of bytes.
func Number(b []byte) uint64 {
	var v uint64
	for i := range min(len(b), 8) {
		v |= uint64(b[i]) << (8 * i)
	}
	return v
}

// Chunks are the parts of a copy.
func Chunks(n int) []int {
	if n < 1 || n > api.MaxBuffer {
		return nil
	}
	var l []int
	for n > 0 {
		k := min(n, api.MaxChunk)
		l = append(l, k)
		n -= k
	}
	return l
}
