// Package set is layer 1: see shared/doc/01-set.md.
package set

import (
	"iter"
	"math/bits"

	"whittle/api"
)

// end is behind the last byte; where a byte is looked for, it stands for none.
const end = 256

// Of: the set of bytes.
func Of(b ...byte) api.Set {
	var s api.Set
	for _, x := range b {
		s[x/64] |= 1 << (x % 64)
	}
	return s
}

// Span: from one byte to another one.
func Span(from byte, to byte) api.Set {
	var s api.Set
	// An int goes on behind 255, where a byte would begin again.
	for b := int(from); b <= int(to); b++ {
		s[b/64] |= 1 << (b % 64)
	}
	return s
}

// Has: is a byte in it?
func Has(s api.Set, b byte) bool {
	return s[b/64]>>(b%64)&1 == 1
}

// Both: in both.
func Both(s api.Set, t api.Set) api.Set {
	for i := range s {
		s[i] &= t[i]
	}
	return s
}

// Any: in any.
func Any(s api.Set, t api.Set) api.Set {
	for i := range s {
		s[i] |= t[i]
	}
	return s
}

// Less: in one, not in the other.
func Less(s api.Set, t api.Set) api.Set {
	for i := range s {
		s[i] &^= t[i]
	}
	return s
}

// Not: not in it.
func Not(s api.Set) api.Set {
	for i := range s {
		s[i] = ^s[i]
	}
	return s
}

// Size: how many.
func Size(s api.Set) int {
	n := 0
	for _, x := range s {
		n += bits.OnesCount64(x)
	}
	return n
}

// First: the least one.
func First(s api.Set) (byte, bool) {
	b := next(s, 0)
	if b == end {
		return 0, false
	}
	return byte(b), true
}

// Rows: from where to where.
func Rows(s api.Set) [][2]byte {
	var l [][2]byte
	for row := range rows(s) {
		l = append(l, row)
	}
	return l
}

// rows tells the rows of s one by one, rising.
func rows(s api.Set) iter.Seq[[2]byte] {
	return func(yield func([2]byte) bool) {
		others := Not(s)
		for from := next(s, 0); from < end; {
			behind := next(others, from)
			if !yield([2]byte{byte(from), byte(behind - 1)}) {
				return
			}
			from = next(s, behind)
		}
	}
}

// next is the least byte of s from at on, or end, if there is none.
func next(s api.Set, at int) int {
	for at < end {
		rest := s[at/64] >> (at % 64)
		if rest != 0 {
			return at + bits.TrailingZeros64(rest)
		}
		at += 64 - at%64
	}
	return end
}
