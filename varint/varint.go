// Package varint is layer 1: it encodes integers in few bytes (LEB128 and
// zigzag); see shared/doc/01-varint.md.
package varint

import (
	"iter"

	"selvage/api"
)

const (
	groupBits = 7

	// more marks a byte that is not its number's last one.
	more = 1 << groupBits

	// lastPlace is the place of the tenth byte, the last one that a number may
	// have: of 64 bits nine groups of seven leave a single one for it.
	lastPlace = 9
)

// Put returns the varint encoding of n, of 1 to 10 bytes.
func Put(n uint64) []byte {
	var b []byte
	for ; n >= more; n >>= groupBits {
		b = append(b, byte(n)|more)
	}
	return append(b, byte(n))
}

// Take returns the number whose Put b begins with, and how many bytes that has.
func Take(b []byte) (uint64, int, api.Errno) {
	for n, size := range numbers(b) {
		return n, size, api.OK
	}
	return 0, 0, api.ErrForm
}

// numbers produces the numbers whose encodings b consists of, each with the
// number of its bytes. It ends early ahead of what no Put returns, so whoever
// needs all of b compares the sum of these with its length.
func numbers(b []byte) iter.Seq2[uint64, int] {
	return func(yield func(uint64, int) bool) {
		n, place := uint64(0), 0
		for _, x := range b {
			if !mayStand(x, place) {
				return
			}
			n |= uint64(x&^more) << (groupBits * place)
			place++
			if x >= more {
				continue
			}
			if !yield(n, place) {
				return
			}
			n, place = 0, 0
		}
	}
}

// mayStand reports whether Put may return x at that place of a number: a last
// byte of 0 behind another one would be superfluous, and more than a single bit
// at the last place too great.
func mayStand(x byte, place int) bool {
	if place == lastPlace {
		return x == 1
	}
	return x != 0 || place == 0
}

// Zig returns a number with a sign as one without, in the order of their
// distances from 0.
func Zig(n int) uint64 {
	if n >= 0 {
		return 2 * uint64(n)
	}
	// The least number has no positive counterpart: here and nowhere else the
	// product wraps round to 0, and the difference to the greatest number.
	return 2*uint64(-n) - 1
}

// Zag returns the number whose Zig is u.
func Zag(u uint64) int {
	half := int(u / 2)
	if u%2 == 0 {
		return half
	}
	// Not -(half + 1): that sum would not fit for the least number.
	return -half - 1
}

// Pack returns the encodings of the elements of l, one after the other.
func Pack(l []int) []byte {
	var b []byte
	for _, n := range l {
		b = append(b, Put(Zig(n))...)
	}
	return b
}

// Unpack returns the list whose Pack is b.
func Unpack(b []byte) ([]int, api.Errno) {
	var l []int
	read := 0
	for u, size := range numbers(b) {
		l = append(l, Zag(u))
		read += size
	}
	if read != len(b) {
		return nil, api.ErrForm
	}
	return l, api.OK
}
