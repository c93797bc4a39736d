package nat

import (
	"math"
	"math/bits"
)

// Div returns the quotient of a and b, rounded down, the remainder, and true,
// or false if b is 0.
func Div(a, b []uint64) ([]uint64, []uint64, bool) {
	a, b = used(a), used(b)
	switch {
	case len(b) == 0:
		return nil, nil, false
	case len(a) < len(b):
		return nil, Trim(a), true
	}
	quotient, rest := divide(a, b)
	return quotient, rest, true
}

// divide is long division in words: one word of the quotient a step, the
// highest first. a has at least as many words as b, and b is not 0.
func divide(a, b []uint64) ([]uint64, []uint64) {
	// A divisor with its highest bit set keeps the guesses close.
	gap := bits.LeadingZeros64(b[len(b)-1])
	divisor := Shift(b, gap)
	rest := make([]uint64, len(a)+1)
	copy(rest, Shift(a, gap))
	quotient := make([]uint64, len(a)-len(b)+1)
	for i := range len(quotient) {
		k := len(quotient) - 1 - i
		quotient[k] = reduce(rest[k:k+len(b)+1], divisor)
	}
	return used(quotient), Shift(rest, -gap)
}

// reduce divides part, which has one word more than divisor and is less than
// 2^64 times it, and returns the quotient; the remainder stays in part.
func reduce(part, divisor []uint64) uint64 {
	word := guess(part, divisor)
	borrow := subRow(part, divisor, word)
	for borrow != 0 {
		word--
		borrow -= addTo(part, divisor)
	}
	return word
}

// guess returns the quotient as the highest words tell it: never too small,
// and too great by at most 2, since the divisor's highest bit is set.
func guess(part, divisor []uint64) uint64 {
	n := len(divisor)
	top := divisor[n-1]
	if part[n] >= top {
		return math.MaxUint64
	}
	word, _ := bits.Div64(part[n], part[n-1], top)
	return word
}

// subRow takes b times word from row, which has one word more than b, and
// returns what had to be borrowed from above row.
func subRow(row, b []uint64, word uint64) uint64 {
	var carry, borrow uint64
	for i := range len(b) {
		var low uint64
		low, carry = addProduct(0, b[i], word, carry)
		row[i], borrow = bits.Sub64(row[i], low, borrow)
	}
	row[len(b)], borrow = bits.Sub64(row[len(b)], carry, borrow)
	return borrow
}
