package iv

import (
	"math/bits"

	"fathomline/api"
	"fathomline/num"
	"fathomline/round"
)

const wordBits = 64

// power returns x^k rounded to prec bits. The exact power may have many times
// the bits of a number and is rounded only once, so it is formed as words here.
func power(x api.Num, k, prec int, up bool) (api.Num, api.Errno) {
	words := []uint64{1}
	for range k {
		words = product(words, x.W)
	}
	head, dropped := highest(words)
	y, _ := num.Make(x.Neg && k%2 == 1, head, 0)
	y, _ = round.Fit(y, prec, up)
	return scaled{y, int64(k)*x.Exp + wordBits*int64(dropped)}.number()
}

// product returns the words of a times b. The highest ones may be 0.
func product(a, b []uint64) []uint64 {
	words := make([]uint64, len(a)+len(b))
	for i, x := range a {
		carry := uint64(0)
		for j, y := range b {
			high, low := bits.Mul64(x, y)
			low, more := bits.Add64(low, words[i+j], 0)
			high += more
			low, more = bits.Add64(low, carry, 0)
			words[i+j], carry = low, high+more
		}
		words[i+len(b)] = carry
	}
	return words
}

// highest returns the highest words of a power, as many as a number may have,
// and how many are left out. It changes the words that it is given.
func highest(words []uint64) ([]uint64, int) {
	dropped := max(0, len(words)-api.MaxWords)
	words = words[dropped:]
	if dropped > 0 {
		// A power of a number's words is odd, so something is left out. One
		// bit far below those that stay tells it as well as all of them.
		words[0] |= 1
	}
	return words, dropped
}
