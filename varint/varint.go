// Package varint is layer 1: numbers as bytes: see shared/doc/01-varint.md.
package varint

import "kith/api"

// longest is how many bytes a number has at most: nine of them hold 63 of its 64 bits.
const longest = 10

// Put is a number as bytes, Take is the number at their beginning.
func Put(n uint64) []byte {
	var b []byte
	for n >= 128 {
		b = append(b, byte(n%128)+128)
		n /= 128
	}
	return append(b, byte(n))
}

func Take(b []byte) (n uint64, used int, e api.Errno) {
	used = length(b)
	if used == 0 {
		return 0, 0, endless(b)
	}
	if !wasPut(b[:used]) {
		return 0, 0, api.ErrForm
	}
	return value(b[:used]), used, api.OK
}

// length is how many bytes the number at the beginning of b has, or 0, if none of the first ten is a last one.
func length(b []byte) int {
	for i, c := range b[:min(len(b), longest)] {
		if c < 128 {
			return i + 1
		}
	}
	return 0
}

// endless tells apart bytes that may still go on to a number, and those that are too many for one already.
func endless(b []byte) api.Errno {
	if len(b) < longest {
		return api.ErrShort
	}
	return api.ErrForm
}

// wasPut tells whether b, of which just the last byte is below 128, is Put of a number.
func wasPut(b []byte) bool {
	last := b[len(b)-1]
	if last == 0 {
		// Nothing is above what the other bytes say: with such a byte it would not be the shortest form.
		return len(b) == 1
	}
	// Of 64 bits one is left for the tenth byte.
	return len(b) < longest || last == 1
}

// value is the number of bytes of which just the last one is below 128.
func value(b []byte) uint64 {
	var n uint64
	for i, c := range b {
		n |= uint64(c%128) << (7 * i)
	}
	return n
}
