package num

import (
	"math"
	"slices"
	"testing"

	"fathomline/api"
)

const (
	all     = math.MaxUint64
	maxBits = 64 * api.MaxWords
)

// of is m times 2^exp, as it is written: valid if m is odd.
func of(m, exp int64) api.Num {
	if m < 0 {
		return api.Num{Neg: true, Exp: exp, W: []uint64{-uint64(m)}}
	}
	return api.Num{Exp: exp, W: []uint64{uint64(m)}}
}

func words(exp int64, w ...uint64) api.Num { return api.Num{Exp: exp, W: w} }

func minus(x api.Num) api.Num {
	x.Neg = !x.Neg
	return x
}

// wide is 2^(bits-1) + 1 times 2^exp: that many bits, the outer ones 1.
func wide(bits int, exp int64) api.Num {
	w := make([]uint64, (bits+63)/64)
	w[(bits-1)/64] = 1 << ((bits - 1) % 64)
	w[0] |= 1
	return api.Num{Exp: exp, W: w}
}

// full is 2^bits - 1 times 2^exp.
func full(bits int, exp int64) api.Num {
	w := slices.Repeat([]uint64{all}, (bits+63)/64)
	w[len(w)-1] >>= uint(64*len(w) - bits)
	return api.Num{Exp: exp, W: w}
}

// equal does not lean on Same.
func equal(a, b api.Num) bool {
	return a.Neg == b.Neg && a.Exp == b.Exp && slices.Equal(a.W, b.W)
}

func isZero(x api.Num) bool { return equal(x, api.Num{}) }

// rising are valid numbers in the order of their values.
func rising() []api.Num {
	above := []api.Num{
		of(1, -api.MaxExp), of(3, -api.MaxExp), full(maxBits, -api.MaxExp),
		of(1, -70), of(1, -1), of(3, -2), of(1, 0), wide(65, -64), of(5, -2), of(3, -1), of(1, 1), of(3, 0),
		words(0, all), of(1, 64), wide(65, 0), full(65, 0), of(1, 65),
		words(0, 1, 0, 2), words(0, 3, 0, 2), words(0, 1, 1, 2), words(0, 1, 0, 3),
		of(1, 4095), wide(maxBits, 0), full(maxBits, 0), of(1, maxBits),
		of(1, api.MaxExp), of(3, api.MaxExp), wide(maxBits, api.MaxExp), full(maxBits, api.MaxExp),
	}
	var numbers []api.Num
	for i := range above {
		numbers = append(numbers, minus(above[len(above)-1-i]))
	}
	return append(append(numbers, api.Num{}), above...)
}

// invalid are numbers that break one rule of P2.1 each, by the rule.
func invalid() map[string]api.Num {
	return map[string]api.Num{
		"0 that is negated":             {Neg: true},
		"0 with an exponent above":      {Exp: 1},
		"0 with an exponent below":      {Exp: -1},
		"0 of one word":                 words(0, 0),
		"0 of words":                    words(0, 0, 0, 0),
		"0 of words that is negated":    minus(words(0, 0)),
		"0 of words and an exponent":    words(5, 0),
		"highest word 0":                words(0, 1, 0),
		"highest words 0":               words(0, 3, 5, 0, 0),
		"lowest bit 0":                  of(2, 0),
		"lowest bit 0, negated":         of(-6, 3),
		"lowest word 0":                 words(0, 0, 1),
		"lowest bit 0 of more words":    words(0, 4, 1, 1),
		"one word too many":             wide(maxBits+1, 0),
		"one word of ones too many":     full(maxBits+64, 0),
		"the words fit without zeros":   words(0, append(wide(maxBits, 0).W, 0)...),
		"many words too many":           wide(100*maxBits, 0),
		"exponent above MaxExp":         of(1, api.MaxExp+1),
		"exponent below -MaxExp":        of(1, -api.MaxExp-1),
		"exponent above, negated":       of(-3, api.MaxExp+1),
		"greatest exponent":             of(1, math.MaxInt64),
		"least exponent":                of(1, math.MinInt64),
		"0 with the greatest exponent":  {Exp: math.MaxInt64},
		"0 with the least exponent":     {Exp: math.MinInt64},
		"everything at once":            {Neg: true, Exp: math.MinInt64, W: make([]uint64, 70)},
		"exponent that wraps to 32 bit": of(1, 1<<32),
	}
}

// P2.1

func TestRight(t *testing.T) {
	for _, x := range rising() {
		if !Right(x) {
			t.Errorf("Right(%v) is false", x)
		}
	}
	for _, x := range []api.Num{{}, {W: []uint64{}}, full(maxBits, -api.MaxExp), minus(full(maxBits, api.MaxExp)), words(0, 1, 0, 1)} {
		if !Right(x) {
			t.Errorf("Right(%v) is false", x)
		}
	}
	for rule, x := range invalid() {
		if Right(x) {
			t.Errorf("Right is true: %s", rule)
		}
	}
}

func TestMake(t *testing.T) {
	for _, x := range []struct {
		neg  bool
		w    []uint64
		exp  int64
		want api.Num
	}{
		{false, []uint64{12}, 0, of(3, 2)},
		{true, []uint64{12}, 0, of(-3, 2)},
		{false, []uint64{1}, 0, of(1, 0)},
		{true, []uint64{12, 0, 0}, -2, of(-3, 0)},
		{false, []uint64{0, 5}, -64, of(5, 0)},
		{false, []uint64{0, 0, 1 << 63, 0}, 1, of(1, 192)},
		{false, []uint64{1 << 63, 1}, 0, of(3, 63)},
		{false, []uint64{all - 1, all}, 7, full(127, 8)},
		{false, []uint64{1, 1}, 9, words(9, 1, 1)},
		{false, full(maxBits, 0).W, api.MaxExp, full(maxBits, api.MaxExp)},
		{true, wide(maxBits, 0).W, -api.MaxExp, minus(wide(maxBits, -api.MaxExp))},
	} {
		got, err := Make(x.neg, x.w, x.exp)
		if err != api.OK || !equal(got, x.want) {
			t.Errorf("Make(%v, %v, %d) = %v, %d", x.neg, x.w, x.exp, got, err)
		}
	}
}

func TestMakeZero(t *testing.T) {
	for _, w := range [][]uint64{nil, {}, {0}, {0, 0, 0}, make([]uint64, 5000)} {
		for _, exp := range []int64{0, 1, -1, api.MaxExp + 1, -api.MaxExp - 1, math.MaxInt64, math.MinInt64} {
			for _, neg := range []bool{false, true} {
				if got, err := Make(neg, w, exp); err != api.OK || !isZero(got) || !Right(got) {
					t.Errorf("Make(%v, %d zero words, %d) = %v, %d", neg, len(w), exp, got, err)
				}
			}
		}
	}
}

// TestMakeBounds moves 3, with its lowest bit at any place, over both bounds of
// the exponent. Beyond 2^18 places, nat.Shift alone does not reach that bit.
func TestMakeBounds(t *testing.T) {
	for _, zeros := range []int{0, 1, 63, 64, 65, 4095, 4096, 4097, 70 * 64, api.MaxShift - 1, api.MaxShift, api.MaxShift + 1, api.MaxShift + 64, 3*api.MaxShift + 7} {
		w := make([]uint64, zeros/64+3)
		w[zeros/64] = 3 << (zeros % 64)
		if zeros%64 == 63 {
			w[zeros/64+1] = 1
		}
		for _, exp := range []int64{-api.MaxExp, 1 - api.MaxExp, -1, 0, 1, api.MaxExp - 1, api.MaxExp} {
			got, err := Make(true, w, exp-int64(zeros))
			if err != api.OK || !equal(got, of(-3, exp)) {
				t.Errorf("Make of 3 times 2^%d, %d zeros below: %v, %d", exp, zeros, got, err)
			}
		}
		for _, exp := range []int64{-api.MaxExp - 1, -api.MaxExp - 64, api.MaxExp + 1, api.MaxExp + 64} {
			got, err := Make(true, w, exp-int64(zeros))
			if err != api.ErrOver || !isZero(got) {
				t.Errorf("Make of 3 times 2^%d, %d zeros below: %v, %d", exp, zeros, got, err)
			}
		}
		for _, exp := range []int64{math.MinInt64, math.MinInt64 + 1, math.MaxInt64 - 1, math.MaxInt64, -1 << 32, 1 << 32} {
			got, err := Make(false, w, exp)
			if err != api.ErrOver || !isZero(got) {
				t.Errorf("Make of %d zeros and exponent %d: %v, %d", zeros, exp, got, err)
			}
		}
	}
}

// TestMakeWords: only the bits from the lowest 1 to the highest 1 count.
func TestMakeWords(t *testing.T) {
	for _, below := range []int{0, 1, 7, 64, 5000} {
		for _, above := range []int{0, 1, 5000} {
			place := func(x api.Num) []uint64 {
				return slices.Concat(make([]uint64, below), x.W, make([]uint64, above))
			}
			for _, x := range []api.Num{wide(maxBits, 0), full(maxBits, 0), wide(maxBits-1, 0), of(1, 0)} {
				if got, err := Make(false, place(x), -64*int64(below)); err != api.OK || !equal(got, x) {
					t.Errorf("Make of %d words between %d and %d: %d", len(x.W), below, above, err)
				}
			}
			for _, x := range []api.Num{wide(maxBits+1, 0), full(maxBits+64, 0), wide(2*maxBits, 0)} {
				if got, err := Make(false, place(x), -64*int64(below)); err != api.ErrOver || !isZero(got) {
					t.Errorf("Make of %d words between %d and %d: %d", len(x.W), below, above, err)
				}
			}
		}
	}
	// 4096 bits that are spread over 65 words, and one bit more.
	spread := append([]uint64{1 << 63}, slices.Repeat([]uint64{all}, api.MaxWords)...)
	if got, err := Make(false, spread, 0); err != api.ErrOver || !isZero(got) {
		t.Errorf("Make of 4097 bits: %d", err)
	}
	spread[api.MaxWords] >>= 1
	if got, err := Make(false, spread, 0); err != api.OK || !equal(got, full(maxBits, 63)) {
		t.Errorf("Make of 4096 bits in 65 words: %v, %d", got, err)
	}
}

func TestInt(t *testing.T) {
	for n, want := range map[int64]api.Num{
		0: {}, 1: of(1, 0), -1: of(-1, 0), 48: of(3, 4), -6: of(-3, 1), 1 << 62: of(1, 62),
		math.MaxInt64: of(math.MaxInt64, 0), -math.MaxInt64: of(-math.MaxInt64, 0), math.MinInt64: of(-1, 63),
		math.MinInt64 + 2: of(-(1<<62 - 1), 1),
	} {
		if got := Int(n); !equal(got, want) || !Right(got) {
			t.Errorf("Int(%d) = %v", n, got)
		}
	}
}

// P2.2

func TestSign(t *testing.T) {
	numbers := rising()
	for i, x := range numbers {
		want := max(-1, min(1, i-len(numbers)/2))
		if Sign(x) != want {
			t.Errorf("Sign(%v) = %d", x, Sign(x))
		}
		negative, size := minus(x), x
		size.Neg = false
		if want == 0 {
			negative = x
		}
		if got := Neg(x); !equal(got, negative) || !Right(got) {
			t.Errorf("Neg(%v) = %v", x, got)
		}
		if got := Abs(x); !equal(got, size) || !Right(got) {
			t.Errorf("Abs(%v) = %v", x, got)
		}
	}
}

func TestCmp(t *testing.T) {
	numbers := rising()
	for i, a := range numbers {
		for k, b := range numbers {
			if got, want := Cmp(a, b), max(-1, min(1, i-k)); got != want {
				t.Errorf("Cmp(%v, %v) = %d", a, b, got)
			}
		}
	}
}

func TestQuestionsOfInvalid(t *testing.T) {
	for rule, x := range invalid() {
		if Sign(x) != 0 || !isZero(Neg(x)) || !isZero(Abs(x)) {
			t.Errorf("Sign, Neg, Abs: %s: %d, %v, %v", rule, Sign(x), Neg(x), Abs(x))
		}
		for _, y := range rising() {
			if Cmp(x, y) != 0 || Cmp(y, x) != 0 {
				t.Errorf("Cmp: %s and %v: %d, %d", rule, y, Cmp(x, y), Cmp(y, x))
			}
		}
		for other, y := range invalid() {
			if Cmp(x, y) != 0 {
				t.Errorf("Cmp: %s, %s: %d", rule, other, Cmp(x, y))
			}
		}
	}
}

func TestSame(t *testing.T) {
	var numbers []api.Num
	for _, x := range invalid() {
		numbers = append(numbers, x)
	}
	numbers = append(numbers, rising()...)
	// Equal values, and words that differ in one place only.
	numbers = append(numbers, of(8, 0), of(4, 1), of(1, 3), words(0, 1, 2, 3), words(0, 9, 2, 3), words(0, 1, 9, 3), words(0, 1, 2, 9), words(1, 1, 2, 3))
	for i, a := range numbers {
		for k, b := range numbers {
			b.W = slices.Clone(b.W)
			if Same(a, b) != (i == k) {
				t.Errorf("Same(%v, %v) = %v", a, b, Same(a, b))
			}
		}
	}
	for _, exp := range []int64{0, 3} {
		if !Same(api.Num{Exp: exp}, api.Num{Exp: exp, W: []uint64{}}) || !Same(api.Num{Exp: exp, W: []uint64{}}, api.Num{Exp: exp}) {
			t.Error("no words and nil words are not Same")
		}
	}
}

func TestExamples(t *testing.T) {
	if got, err := Make(false, []uint64{12}, 0); err != api.OK || !equal(got, words(2, 3)) {
		t.Errorf("Make(false, [12], 0) = %v, %d", got, err)
	}
	if got := Int(-1); !equal(got, api.Num{Neg: true, W: []uint64{1}}) {
		t.Errorf("Int(-1) = %v", got)
	}
}
