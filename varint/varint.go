// Package varint is layer 1, numbers in a few bytes: see shared/doc/01-varint.md.
package varint

import (
	"abutment/api"
)

const (
	bitsOfByte = 7               // bits of the number that a byte carries
	more       = 1 << bitsOfByte // stands in every byte but the last
	lastPlace  = 9               // place of a number's tenth byte, which has room for one bit alone
)

// Put answers b with x's bytes behind it, as new memory.
func Put(b []byte, x uint64) []byte {
	l := make([]byte, len(b)+Size(x))
	at := copy(l, b)
	for ; x >= more; at++ {
		l[at] = byte(x) | more
		x >>= bitsOfByte
	}
	l[at] = byte(x)
	return l
}

// Size answers how many bytes x has.
func Size(x uint64) int {
	n := 1
	for ; x >= more; x >>= bitsOfByte {
		n++
	}
	return n
}

// Take answers the number whose bytes begin at at, and the place behind them.
// Beside ErrFormat stands the place of the first byte that can't be a number's, or
// len(b), if the bytes end too early.
func Take(b []byte, at int) (uint64, int, api.Errno) {
	if at < 0 || at > len(b) {
		return 0, 0, api.ErrArg
	}
	var x uint64
	for i := at; i < len(b); i++ {
		place := i - at
		if !mayStand(b[i], place) {
			return 0, i, api.ErrFormat
		}
		x |= uint64(b[i]%more) << (bitsOfByte * place)
		if b[i] < more {
			return x, i + 1, api.OK
		}
	}
	return 0, len(b), api.ErrFormat
}

// mayStand tells whether a number's bytes may go on with c at their place.
func mayStand(c byte, place int) bool {
	switch place {
	case 0:
		return true
	case lastPlace:
		return c == 1
	}
	// A last byte 0 would be one byte more than the number needs.
	return c != 0
}
