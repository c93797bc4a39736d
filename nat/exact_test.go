package nat

import (
	"math/big"
	"math/bits"
	"slices"
	"testing"
)

// P1.3: the results are those of another implementation, for numbers whose
// words are ordinary ones as well as ones at which carries and guesses turn.

// source yields the same words in every run.
type source uint64

func (s *source) next() uint64 {
	*s += 0x9e3779b97f4a7c15
	x := uint64(*s)
	x = (x ^ x>>30) * 0xbf58476d1ce4e5b9
	x = (x ^ x>>27) * 0x94d049bb133111eb
	return x ^ x>>31
}

func (s *source) below(n int) int { return int(s.next() % uint64(n)) }

func (s *source) word() uint64 {
	switch s.below(8) {
	case 0, 1:
		return 0
	case 2, 3:
		return all
	case 4:
		return 1 << 63
	case 5:
		return 1 << s.below(64)
	case 6:
		return all >> s.below(64)
	}
	return s.next()
}

// number has at most n words, and it need not be normalized.
func (s *source) number(n int) []uint64 {
	a := make([]uint64, s.below(n+1))
	for i := range a {
		a[i] = s.word()
	}
	return a
}

// bigOf goes through bytes, so that it hangs on no word size of math/big.
func bigOf(a []uint64) *big.Int {
	text := make([]byte, 8*len(a))
	for i, w := range a {
		for k := range 8 {
			text[len(text)-1-8*i-k] = byte(w >> (8 * k))
		}
	}
	return new(big.Int).SetBytes(text)
}

func expect(t *testing.T, what string, got []uint64, want *big.Int, args ...[]uint64) {
	t.Helper()
	if !Right(got) || bigOf(got).Cmp(want) != 0 {
		t.Fatalf("%s of %v: %v, not %v", what, args, got, want)
	}
}

func checkOne(t *testing.T, a []uint64, n int) {
	t.Helper()
	x := bigOf(a)
	expect(t, "Trim", Trim(a), x, a)
	if Bits(a) != x.BitLen() || Zeros(a) != int(x.TrailingZeroBits()) {
		t.Fatalf("Bits, Zeros of %v: %d, %d", a, Bits(a), Zeros(a))
	}
	expect(t, "Shift up", Shift(a, n), new(big.Int).Lsh(x, uint(n)), a)
	expect(t, "Shift down", Shift(a, -n), new(big.Int).Rsh(x, uint(n)), a)
}

func checkTwo(t *testing.T, a, b []uint64) {
	t.Helper()
	x, y := bigOf(a), bigOf(b)
	if Cmp(a, b) != x.Cmp(y) {
		t.Fatalf("Cmp(%v, %v) = %d", a, b, Cmp(a, b))
	}
	expect(t, "Add", Add(a, b), new(big.Int).Add(x, y), a, b)
	expect(t, "Mul", Mul(a, b), new(big.Int).Mul(x, y), a, b)
	rest, ok := Sub(a, b)
	if ok != (x.Cmp(y) >= 0) {
		t.Fatalf("Sub of %v, %v: %v", a, b, ok)
	}
	if ok {
		expect(t, "Sub", rest, new(big.Int).Sub(x, y), a, b)
	}
	quotient, rest, ok := Div(a, b)
	if ok != (y.Sign() != 0) {
		t.Fatalf("Div of %v, %v: %v", a, b, ok)
	}
	if ok {
		q, r := new(big.Int).QuoRem(x, y, new(big.Int))
		expect(t, "Div", quotient, q, a, b)
		expect(t, "remainder", rest, r, a, b)
	}
}

func TestExact(t *testing.T) {
	s := source(1)
	for range 20000 {
		a, b := s.number(9), s.number(5)
		checkOne(t, a, s.below(400))
		checkTwo(t, a, b)
		checkTwo(t, b, a)
	}
	for range 20 {
		checkTwo(t, s.number(300), s.number(150))
	}
}

// TestExactNearMultiples divides numbers next to the multiples of the divisor,
// where a quotient that is off by 1 shows.
func TestExactNearMultiples(t *testing.T) {
	s := source(2)
	one := []uint64{1}
	for range 5000 {
		b := Add(s.number(5), one)
		multiple := Mul(s.number(5), b)
		checkTwo(t, multiple, b)
		checkTwo(t, Add(multiple, one), b)
		if below, ok := Sub(multiple, one); ok {
			checkTwo(t, below, b)
		}
	}
}

func TestExactSmallWords(t *testing.T) {
	words := []uint64{0, 1, 2, 1<<63 - 1, 1 << 63, 1<<63 + 1, all - 1, all}
	var numbers [][]uint64
	for _, low := range words {
		for _, high := range words {
			numbers = append(numbers, []uint64{low, high})
		}
	}
	for _, b := range numbers {
		for _, a := range numbers {
			checkTwo(t, a, b)
			for _, low := range words {
				checkTwo(t, slices.Concat([]uint64{low}, a), b)
			}
		}
	}
}

// TestGuess counts how far the first guesses of a quotient's words are off, so
// that the tests above are known to reach every correction.
func TestGuess(t *testing.T) {
	words := []uint64{0, 1, 1<<63 - 1, 1 << 63, 1<<63 + 1, all - 1, all}
	var off [3]int
	for _, low := range words {
		for _, high := range words {
			divisor := []uint64{low, high}
			if bits.LeadingZeros64(high) != 0 {
				continue
			}
			for _, x := range words {
				for _, y := range words {
					for _, z := range words {
						part := []uint64{x, y, z}
						if Cmp(part[1:], divisor) >= 0 {
							continue
						}
						first := guess(part, divisor)
						word := reduce(part, divisor)
						if first < word || first-word > 2 {
							t.Fatalf("the guess is %d, the word is %d", first, word)
						}
						off[first-word]++
					}
				}
			}
		}
	}
	if off[0] == 0 || off[1] == 0 || off[2] == 0 {
		t.Errorf("guesses that are off by 0, 1 and 2: %v", off)
	}
}
