// Package bits is layer 1: lists of bits: see shared/doc/01-bits.md.
package bits

import "shuttle/api"

// Of: the bits of bytes, the highest of each first.
func Of(b []byte) []byte {
	l := make([]byte, 0, 8*len(b))
	for _, x := range b {
		for i := 7; i >= 0; i-- {
			l = append(l, x>>i&1)
		}
	}
	return l
}

// Bytes: back, with noughts behind up to a whole byte.
func Bytes(l []byte) ([]byte, api.Errno) {
	if !Right(l) {
		return nil, api.ErrField
	}
	b := make([]byte, (len(l)+7)/8)
	for i, x := range l {
		b[i/8] |= x << (7 - i%8)
	}
	return b, api.OK
}

// Right: are they bits?
func Right(l []byte) bool {
	for _, x := range l {
		if x > 1 {
			return false
		}
	}
	return true
}

// Weight: how many aren't 0. Bytes that are no bits count, too.
func Weight(l []byte) int {
	n := 0
	for _, x := range l {
		if x != 0 {
			n++
		}
	}
	return n
}

// Apart: at how many places two lists of one length are unlike.
func Apart(a, b []byte) (int, bool) {
	if len(a) != len(b) {
		return 0, false
	}
	n := 0
	for i := range a {
		if a[i] != b[i] {
			n++
		}
	}
	return n, true
}

// Turn: with those at some places turned. A place that is named twice is turned back, so only odd counts are left.
func Turn(l []byte, at []int) []byte {
	turned := append([]byte(nil), l...)
	for _, i := range at {
		if i >= 0 && i < len(turned) {
			turned[i] ^= 1
		}
	}
	return turned
}
