// Package set is layer 1: sets of bytes. See shared/doc/01-set.md.
package set

import (
	"math/bits"

	"bolter/api"
)

// wordBits is how many bytes one number of a set tells of.
const wordBits = 64

// upperLetters is A to Z in a set's number 1, which holds all letters; a to z
// lie caseGap bits above them.
const (
	upperLetters = (1<<26 - 1) << ('A' - wordBits)
	caseGap      = 'a' - 'A'
)

// Of answers the set of just the bytes l.
func Of(l ...byte) api.Set {
	var s api.Set
	for _, b := range l {
		s = with(s, b)
	}
	return s
}

// Range answers the set of all bytes from lo to hi; of none, if lo is above hi.
func Range(lo, hi byte) api.Set {
	var s api.Set
	// An int goes on past 255, where a byte would begin anew.
	for b := int(lo); b <= int(hi); b++ {
		s = with(s, byte(b))
	}
	return s
}

// Has tells whether b is in s.
func Has(s api.Set, b byte) bool {
	return s[b/wordBits]>>(b%wordBits)&1 == 1
}

// Union answers the bytes of a, of b, or of both.
func Union(a, b api.Set) api.Set {
	for i := range a {
		a[i] |= b[i]
	}
	return a
}

// Inter answers the bytes that both a and b have.
func Inter(a, b api.Set) api.Set {
	for i := range a {
		a[i] &= b[i]
	}
	return a
}

// Minus answers the bytes of a that b doesn't have.
func Minus(a, b api.Set) api.Set {
	for i := range a {
		a[i] &^= b[i]
	}
	return a
}

// Not answers the bytes that s doesn't have.
func Not(s api.Set) api.Set {
	for i := range s {
		s[i] = ^s[i]
	}
	return s
}

// Count tells how many bytes s has.
func Count(s api.Set) int {
	n := 0
	for _, word := range s {
		n += bits.OnesCount64(word)
	}
	return n
}

// Least answers the least byte of s and true; 0 and false, if s has none.
func Least(s api.Set) (byte, bool) {
	for i, word := range s {
		if word != 0 {
			return byte(i*wordBits + bits.TrailingZeros64(word)), true
		}
	}
	return 0, false
}

// All answers all bytes of s, rising.
func All(s api.Set) []byte {
	l := make([]byte, 0, Count(s))
	for i, word := range s {
		for word != 0 {
			l = append(l, byte(i*wordBits+bits.TrailingZeros64(word)))
			word &= word - 1
		}
	}
	return l
}

// Ranges answers the least number of ranges that make up s, from the least
// byte on, each from its first to its last byte.
func Ranges(s api.Set) [][2]byte {
	var l [][2]byte
	for _, b := range All(s) {
		// Behind another byte b is above 0, so b - 1 does not wrap round.
		if n := len(l); n > 0 && l[n-1][1] == b-1 {
			l[n-1][1] = b
		} else {
			l = append(l, [2]byte{b, b})
		}
	}
	return l
}

// Fold answers s, with each letter A to Z and a to z also the other one.
func Fold(s api.Set) api.Set {
	letters := (s[1] | s[1]>>caseGap) & upperLetters
	s[1] |= letters | letters<<caseGap
	return s
}

// with answers s and b in it.
func with(s api.Set, b byte) api.Set {
	s[b/wordBits] |= 1 << (b % wordBits)
	return s
}
