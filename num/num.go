// Package num: Numbers as bytes: see doc/01-num.md.
package num

import (
	"newsreel/api"
)

const (
	digitBits = 7
	more      = 1 << digitBits // on each byte of a number but its last one
	maxDigits = 10             // 64 bits are nine digits and one bit
	topDigit  = 1              // so the tenth digit can be no more than that bit
	wordBytes = 8
)

// Put: b, and behind it each of l by its digits.
func Put(b []byte, l ...uint64) []byte {
	size := len(b)
	for _, v := range l {
		size += Size(v)
	}
	// Never append to b itself: the room behind it is the caller's.
	out := make([]byte, 0, size)
	out = append(out, b...)
	for _, v := range l {
		for v >= more {
			out = append(out, byte(v)|more)
			v >>= digitBits
		}
		out = append(out, byte(v))
	}
	return out
}

// Take: the number at b's beginning, and how many bytes it has.
func Take(b []byte) (uint64, int, api.Errno) {
	var v uint64
	for i, c := range b[:min(len(b), maxDigits)] {
		v |= uint64(c%more) << (digitBits * i)
		if c >= more {
			continue
		}
		if !lastFits(c, i) {
			return 0, 0, api.ErrForm
		}
		return v, i + 1, api.OK
	}
	if len(b) < maxDigits {
		return 0, 0, api.ErrShort
	}
	return 0, 0, api.ErrForm
}

// lastFits: whether c may be the last byte of a number, at place i. A 0 that
// isn't the only byte would be a second way to write a shorter number; a tenth
// byte above the top one would be beyond 64 bits.
func lastFits(c byte, i int) bool {
	if c == 0 {
		return i == 0
	}
	return i < maxDigits-1 || c <= topDigit
}

// Size: how many bytes Put writes of v.
func Size(v uint64) int {
	n := 1
	for v >= more {
		v >>= digitBits
		n++
	}
	return n
}

// Fixed: the n lowest bytes of v, the highest of them first.
func Fixed(v uint64, n int) []byte {
	out := make([]byte, min(max(n, 0), wordBytes))
	for i := len(out) - 1; i >= 0; i-- {
		out[i] = byte(v)
		v >>= 8
	}
	return out
}

// Big: the number of b's first eight bytes, the highest first.
func Big(b []byte) uint64 {
	var v uint64
	for _, c := range b[:min(len(b), wordBytes)] {
		v = v<<8 | uint64(c)
	}
	return v
}
