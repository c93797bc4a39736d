package poly

import (
	"math/bits"

	"fathomline/api"
	"fathomline/num"
)

// An exact value is held as an api.Num that need not be valid: it may have any
// exponent and any words, with zeros at both ends, and a 0 may have a sign.

const wordBits = 64

// product returns a times b.
func product(a, b api.Num) api.Num {
	words := make([]uint64, len(a.W)+len(b.W))
	for i, x := range a.W {
		words[i+len(b.W)] = addTimes(words[i:], b.W, x)
	}
	return api.Num{Neg: a.Neg != b.Neg, Exp: a.Exp + b.Exp, W: words}
}

// addTimes adds words times factor to as many words of sum, and returns the
// carry out of these.
func addTimes(sum, words []uint64, factor uint64) uint64 {
	var carry uint64
	for i, word := range words {
		high, low := bits.Mul64(word, factor)
		low, over := bits.Add64(low, carry, 0)
		high += over
		sum[i], over = bits.Add64(sum[i], low, 0)
		carry = high + over
	}
	return carry
}

// total returns the valid number with the value of the sum, or ErrOver.
func total(parts []api.Num) (api.Num, api.Errno) {
	low, high := span(parts)
	// One word more for a part that is shifted, and for the carries of all.
	size := (high-low)/wordBits + 2
	// Signs apart, so that no carry or borrow runs to the end again and again.
	above, below := make([]uint64, size), make([]uint64, size)
	for _, x := range parts {
		sum := above
		if x.Neg {
			sum = below
		}
		addAt(sum, x.W, x.Exp-low)
	}
	if words, ok := difference(above, below); ok {
		return num.Make(false, words, low)
	}
	words, _ := difference(below, above)
	return num.Make(true, words, low)
}

// span returns the places between which all parts and the point lie.
func span(parts []api.Num) (low, high int64) {
	for _, x := range parts {
		low = min(low, x.Exp)
		high = max(high, x.Exp+wordBits*int64(len(x.W)))
	}
	return low, high
}

// addAt adds words times 2^place to sum, which has room for the result.
func addAt(sum, words []uint64, place int64) {
	sum = sum[place/wordBits:]
	place %= wordBits
	var moved, carry uint64
	for i := range sum {
		word := moved
		moved = 0
		if i < len(words) {
			// A shift by 64 places yields 0, which is right if place is 0.
			word |= words[i] << place
			moved = words[i] >> (wordBits - place)
		} else if word == 0 && carry == 0 {
			return
		}
		sum[i], carry = bits.Add64(sum[i], word, carry)
	}
}

// difference returns a - b and true, or false if a is less than b. Both have
// the same number of words.
func difference(a, b []uint64) ([]uint64, bool) {
	rest := make([]uint64, len(a))
	var borrow uint64
	for i := range a {
		rest[i], borrow = bits.Sub64(a[i], b[i], borrow)
	}
	return rest, borrow == 0
}
