// Package nat is the arithmetic of natural numbers of any size (doc/01-nat.md).
//
// A number is a slice of 64-bit words, the least significant one first. Every
// function takes slices with zero words at their end too; every result is
// normalized, and shares no memory with an argument or with another result.
package nat

import (
	"math/bits"

	"fathomline/api"
)

const wordBits = 64

// Right reports whether a is normalized.
func Right(a []uint64) bool {
	return len(a) == 0 || a[len(a)-1] != 0
}

// Trim returns the normalized words of a.
func Trim(a []uint64) []uint64 {
	a = used(a)
	words := make([]uint64, len(a))
	copy(words, a)
	return words
}

// used is the part of a below its zero words. It shares a's memory, so it is
// only for reading arguments and for cutting results that are new already.
func used(a []uint64) []uint64 {
	for i := range len(a) {
		n := len(a) - i
		if a[n-1] != 0 {
			return a[:n]
		}
	}
	return nil
}

// Bits returns the least n such that a is less than 2^n.
func Bits(a []uint64) int {
	a = used(a)
	if len(a) == 0 {
		return 0
	}
	top := len(a) - 1
	return top*wordBits + bits.Len64(a[top])
}

// Zeros returns how many of the lowest bits of a are 0, and 0 for the number 0.
func Zeros(a []uint64) int {
	for i := range len(a) {
		if a[i] != 0 {
			return i*wordBits + bits.TrailingZeros64(a[i])
		}
	}
	return 0
}

// Cmp returns -1, 0 or 1 as a is less than, equal to or greater than b.
func Cmp(a, b []uint64) int {
	a, b = used(a), used(b)
	switch {
	case len(a) < len(b):
		return -1
	case len(a) > len(b):
		return 1
	}
	for i := range len(a) {
		k := len(a) - 1 - i
		switch {
		case a[k] < b[k]:
			return -1
		case a[k] > b[k]:
			return 1
		}
	}
	return 0
}

// Add returns a + b.
func Add(a, b []uint64) []uint64 {
	a, b = used(a), used(b)
	if len(a) < len(b) {
		a, b = b, a
	}
	sum := make([]uint64, len(a)+1)
	copy(sum, a)
	addTo(sum, b)
	return used(sum)
}

// addTo adds b to sum, which has at least as many words as b, and returns the
// carry out of sum.
func addTo(sum, b []uint64) uint64 {
	var carry uint64
words:
	for i := range len(sum) {
		switch {
		case i < len(b):
			sum[i], carry = bits.Add64(sum[i], b[i], carry)
		case carry != 0:
			sum[i], carry = bits.Add64(sum[i], 0, carry)
		default:
			break words // nothing can change the words above
		}
	}
	return carry
}

// Sub returns a - b and true, or false if a is less than b.
func Sub(a, b []uint64) ([]uint64, bool) {
	a, b = used(a), used(b)
	if Cmp(a, b) < 0 {
		return nil, false
	}
	rest := make([]uint64, len(a))
	copy(rest, a)
	subFrom(rest, b)
	return used(rest), true
}

// subFrom takes b from rest, which is not less than b.
func subFrom(rest, b []uint64) {
	var borrow uint64
words:
	for i := range len(rest) {
		switch {
		case i < len(b):
			rest[i], borrow = bits.Sub64(rest[i], b[i], borrow)
		case borrow != 0:
			rest[i], borrow = bits.Sub64(rest[i], 0, borrow)
		default:
			break words // nothing can change the words above
		}
	}
}

// Mul returns a times b.
func Mul(a, b []uint64) []uint64 {
	a, b = used(a), used(b)
	if len(a) == 0 || len(b) == 0 {
		return nil
	}
	product := make([]uint64, len(a)+len(b))
	for i := range len(a) {
		addRow(product[i:i+len(b)+1], b, a[i])
	}
	return used(product)
}

// addRow adds b times word to row, which has one word more than b. That word
// is still 0: the rows below have not come so far.
func addRow(row, b []uint64, word uint64) {
	var carry uint64
	for i := range len(b) {
		row[i], carry = addProduct(row[i], b[i], word, carry)
	}
	row[len(b)] = carry
}

// addProduct returns the low and the high word of x + a*b + carry, which is
// less than 2^128 for all words.
func addProduct(x, a, b, carry uint64) (uint64, uint64) {
	high, low := bits.Mul64(a, b)
	low, c := bits.Add64(low, carry, 0)
	high += c
	low, c = bits.Add64(low, x, 0)
	return low, high + c
}

// Shift returns a times 2^n, rounded down, with n brought to the nearest of
// -MaxShift and MaxShift if it is outside of them.
func Shift(a []uint64, n int) []uint64 {
	a = used(a)
	n = min(max(n, -api.MaxShift), api.MaxShift)
	if n < 0 {
		return shiftDown(a, -n)
	}
	return shiftUp(a, n)
}

func shiftUp(a []uint64, n int) []uint64 {
	if len(a) == 0 {
		return nil
	}
	skip, part := n/wordBits, n%wordBits
	words := make([]uint64, skip+len(a)+1)
	for i := range len(a) {
		// A shift by 64 places yields 0, which is right if part is 0.
		words[skip+i] |= a[i] << part
		words[skip+i+1] = a[i] >> (wordBits - part)
	}
	return used(words)
}

func shiftDown(a []uint64, n int) []uint64 {
	skip, part := n/wordBits, n%wordBits
	if skip >= len(a) {
		return nil
	}
	words := make([]uint64, len(a)-skip)
	for i := range len(words) {
		words[i] = a[skip+i] >> part
		if i > 0 {
			words[i-1] |= a[skip+i] << (wordBits - part)
		}
	}
	return used(words)
}
