// Package vari is layer 1: see shared/doc/01-vari.md.
package vari

import "iter"

const (
	base   = 128 // what a number is told by; a digit with this much more has another one behind
	maxLen = 10  // so many digits has the greatest number
	maxTop = 1   // the greatest digit at the last of these places: 64 bits are nine times seven, and one
)

// Put are a number's bytes, Get the number of bytes, and how many these are.
func Put(n uint64) []byte {
	b := make([]byte, 0, maxLen)
	for n >= base {
		b = append(b, byte(n%base)+base)
		n /= base
	}
	return append(b, byte(n))
}

func Get(b []byte) (uint64, int) {
	var n uint64
	for i, d := range b {
		if i == maxLen-1 && d > maxTop {
			return 0, 0
		}
		n += uint64(d%base) << (7 * i)
		if d >= base {
			continue
		}
		// A last digit of 0 could be left out, so Put would not have written it.
		if d == 0 && i > 0 {
			return 0, 0
		}
		return n, i + 1
	}
	return 0, 0
}

// Zig makes a number one that is not below 0, Zag the other way round.
func Zig(n int) uint64 {
	if n >= 0 {
		return 2 * uint64(n)
	}
	// The least number has no opposite: so 1 is added ahead of turning it round.
	return 2*uint64(-(n+1)) + 1
}

func Zag(n uint64) int {
	half := int(n / 2)
	if n%2 == 0 {
		return half
	}
	return -half - 1
}

// All are the numbers of bytes.
func All(b []byte) ([]uint64, bool) {
	var list []uint64
	whole := true
reading:
	for n, size := range numbers(b) {
		switch size {
		case 0:
			list, whole = nil, false
			break reading
		default:
			list = append(list, n)
		}
	}
	return list, whole
}

// numbers hands on the numbers of bytes, each with how many bytes it has: with none, where no number begins, and then no more.
func numbers(b []byte) iter.Seq2[uint64, int] {
	return func(yield func(uint64, int) bool) {
		for at := 0; at < len(b); {
			n, size := Get(b[at:])
			if !yield(n, size) || size == 0 {
				return
			}
			at += size
		}
	}
}
