package round

import (
	"math"
	"slices"
	"testing"

	"fathomline/api"
)

const (
	all     = math.MaxUint64
	maxBits = 64 * api.MaxWords
	maxExp  = api.MaxExp
)

// of is m times 2^exp, as it is written: valid if m is odd.
func of(m, exp int64) api.Num {
	if m < 0 {
		return api.Num{Neg: true, Exp: exp, W: []uint64{-uint64(m)}}
	}
	return api.Num{Exp: exp, W: []uint64{uint64(m)}}
}

func words(exp int64, w ...uint64) api.Num { return api.Num{Exp: exp, W: w} }

// minus is -x; a 0 stays as it is.
func minus(x api.Num) api.Num {
	x.Neg = !x.Neg && len(x.W) > 0
	return x
}

// wide is 2^(bits-1) + 1 times 2^exp: that many bits, the outer ones 1.
func wide(bits int, exp int64) api.Num {
	w := make([]uint64, (bits+63)/64)
	w[(bits-1)/64] = 1 << ((bits - 1) % 64)
	w[0] |= 1
	return api.Num{Exp: exp, W: w}
}

// full is 2^bits - 1 times 2^exp.
func full(bits int, exp int64) api.Num {
	w := slices.Repeat([]uint64{all}, (bits+63)/64)
	w[len(w)-1] >>= uint(64*len(w) - bits)
	return api.Num{Exp: exp, W: w}
}

// above is the least number of that many bits that is greater than 2^exp.
func above(bits int, exp int64) api.Num { return wide(bits, exp-int64(bits)+1) }

// below is the greatest number of that many bits that is less than 2^exp.
func below(bits int, exp int64) api.Num { return full(bits, exp-int64(bits)) }

func equal(a, b api.Num) bool {
	return a.Neg == b.Neg && a.Exp == b.Exp && slices.Equal(a.W, b.W)
}

func isZero(x api.Num) bool { return equal(x, api.Num{}) }

// invalid are numbers that are not valid (P2.1), by the reason.
func invalid() map[string]api.Num {
	return map[string]api.Num{
		"0 that is negated":      {Neg: true},
		"0 with an exponent":     {Exp: 1},
		"0 of one word":          words(0, 0),
		"highest word 0":         words(0, 1, 0),
		"lowest bit 0":           of(2, 0),
		"lowest word 0":          words(0, 0, 1),
		"one word too many":      wide(maxBits+1, 0),
		"exponent above MaxExp":  of(1, maxExp+1),
		"exponent below -MaxExp": of(-1, -maxExp-1),
		"greatest exponent":      of(1, math.MaxInt64),
		"least exponent":         of(1, math.MinInt64),
	}
}

// inside are values of prec in range, both bounds among them.
func inside() []int {
	return []int{api.MinPrec, api.MinPrec + 1, 63, 64, 65, 127, 128, 129, api.MaxPrec - 1, api.MaxPrec}
}

// outside are values of prec that are out of range.
func outside() []int {
	return []int{api.MinPrec - 1, api.MaxPrec + 1, 0, 1, -1, -api.MinPrec, -api.MaxPrec, math.MaxInt32, math.MaxInt, math.MinInt}
}

func directions() []bool { return []bool{false, true} }

// outcome is what a call returns.
type outcome struct {
	x   api.Num
	err api.Errno
}

func is(x api.Num) outcome { return outcome{x: x} }

func over() outcome { return outcome{err: api.ErrOver} }

func (o outcome) minus() outcome { return outcome{minus(o.x), o.err} }

// bounds are the outcomes of rounding one value down and up.
type bounds struct{ down, up outcome }

// minus are the bounds of the negated value.
func (b bounds) minus() bounds { return bounds{b.up.minus(), b.down.minus()} }

type operation func(a, b api.Num, prec int, up bool) (api.Num, api.Errno)

// asOperation is Fit of the first number.
func asOperation(a, _ api.Num, prec int, up bool) (api.Num, api.Errno) { return Fit(a, prec, up) }

// expect holds both directions of a call against its bounds.
func expect(t *testing.T, name string, call operation, a, b api.Num, prec int, want bounds) {
	t.Helper()
	for _, up := range directions() {
		w := want.down
		if up {
			w = want.up
		}
		if got, err := call(a, b, prec, up); err != w.err || !equal(got, w.x) {
			t.Errorf("%s of %v, %v to %d bits, up %v: %v, %d, not %v, %d", name, a, b, prec, up, got, err, w.x, w.err)
		}
	}
}

func expectFit(t *testing.T, x api.Num, prec int, want bounds) {
	t.Helper()
	expect(t, "Fit", asOperation, x, api.Num{}, prec, want)
	expect(t, "Fit", asOperation, minus(x), api.Num{}, prec, want.minus())
}

// P3.1

func TestFit(t *testing.T) {
	for _, x := range []struct {
		x        api.Num
		prec     int
		down, up api.Num
	}{
		{of(257, 0), 8, of(1, 8), of(129, 1)},
		{of(259, 0), 8, of(129, 1), of(65, 2)},
		{of(1001, -30), 8, of(125, -27), of(251, -28)},
		{of(1001, -30), 9, of(125, -27), of(501, -29)},
		// What is dropped is less than, equal to and more than half of the last place.
		{of(0b10110110_01, 5), 8, of(0b1011011, 8), of(0b10110111, 7)},
		{of(0b10110110_1, 5), 8, of(0b1011011, 7), of(0b10110111, 6)},
		{of(0b10110110_11, 5), 8, of(0b1011011, 8), of(0b10110111, 7)},
		{of(0b10110101_000000001, 0), 8, of(0b10110101, 9), of(0b1011011, 10)},
		{wide(65, 0), 64, of(1, 64), above(64, 64)},
		{wide(200, 9), 129, of(1, 208), above(129, 208)},
		{wide(maxBits, -5), 256, of(1, maxBits-6), above(256, maxBits-6)},
		{words(7, 1, 0, 1, 1), 64, of(1, 199), words(136, 1<<63+1)},
		{words(7, 1, 0, 1, 1), 65, words(135, 1, 1), words(136, 1<<63+1)},
		{words(7, 1, 0, 1, 1), 128, words(135, 1, 1), words(72, 1<<63+1, 1<<63)},
	} {
		expectFit(t, x.x, x.prec, bounds{is(x.down), is(x.up)})
	}
}

// TestFitPlaces has a 1 at any place below the bits that stay, and nothing
// between.
func TestFitPlaces(t *testing.T) {
	for _, prec := range inside() {
		for _, more := range []int{1, 2, 63, 64, 65, 128, 1000, maxBits - prec} {
			size := prec + more
			for _, exp := range []int64{0, -7, -maxExp, maxExp - maxBits} {
				top := exp + int64(size) - 1
				expectFit(t, wide(size, exp), prec, bounds{is(of(1, top)), is(above(prec, top))})
				expectFit(t, full(size, exp), prec, bounds{is(below(prec, top+1)), is(of(1, top+1))})
			}
		}
	}
}

// TestFitExact: a number of prec bits, or of fewer, is returned as it is.
func TestFitExact(t *testing.T) {
	for _, prec := range inside() {
		for _, exp := range []int64{-maxExp, -1000, -1, 0, 1, 64, maxExp} {
			numbers := []api.Num{{}, of(1, exp), of(3, exp), of(255, exp), of(129, exp)}
			for _, size := range []int{prec, prec - 1, prec/2 + 2} {
				numbers = append(numbers, wide(size, exp), full(size, exp))
			}
			for _, x := range numbers {
				expectFit(t, x, prec, bounds{is(x), is(x)})
			}
		}
	}
}

// TestFitCarry: all bits that stay are 1, so rounding away from 0 ends at the
// next power of two.
func TestFitCarry(t *testing.T) {
	for _, prec := range inside() {
		for _, more := range []int{1, 3, 64, 500} {
			// The highest bit that is dropped is 0, so that no nearest number is above.
			x := full(prec+more, 20)
			if more > 1 {
				x.W[(more-1)/64] &^= 1 << ((more - 1) % 64)
			}
			top := int64(20 + prec + more)
			expectFit(t, x, prec, bounds{is(below(prec, top)), is(of(1, top))})
		}
	}
	expectFit(t, of(511, 0), 8, bounds{is(of(255, 1)), is(of(1, 9))})
	expectFit(t, of(511, 0), 9, bounds{is(of(511, 0)), is(of(511, 0))})
}

func TestFitInvalid(t *testing.T) {
	for _, up := range directions() {
		for rule, x := range invalid() {
			for _, prec := range append(inside(), outside()...) {
				if got, err := Fit(x, prec, up); err != api.ErrForm || !isZero(got) {
					t.Errorf("Fit to %d bits, up %v: %s: %v, %d", prec, up, rule, got, err)
				}
			}
		}
		// The last one has no rounded value that is a number: ErrForm comes first.
		for _, x := range []api.Num{{}, of(1, 0), of(-257, 0), full(maxBits, maxExp)} {
			for _, prec := range outside() {
				if got, err := Fit(x, prec, up); err != api.ErrForm || !isZero(got) {
					t.Errorf("Fit(%v, %d, %v) = %v, %d", x, prec, up, got, err)
				}
			}
		}
	}
}

// TestFitOver has values at the greatest exponent: which of them are numbers
// hangs on the lowest 1 that stays.
func TestFitOver(t *testing.T) {
	for _, x := range []struct {
		x    api.Num
		prec int
		want bounds
	}{
		{of(511, maxExp), 8, bounds{over(), over()}},
		{of(257, maxExp), 8, bounds{over(), over()}},
		{of(257, maxExp), 9, bounds{is(of(257, maxExp)), is(of(257, maxExp))}},
		{of(511, maxExp-1), 8, bounds{is(of(255, maxExp)), over()}},
		{of(509, maxExp-1), 8, bounds{over(), is(of(255, maxExp))}},
		{of(1021, maxExp-2), 8, bounds{is(of(255, maxExp)), over()}},
		{of(1021, maxExp-3), 8, bounds{is(of(255, maxExp-1)), over()}},
		{of(257, maxExp-1), 8, bounds{over(), is(of(129, maxExp))}},
		{of(257, maxExp-8), 8, bounds{is(of(1, maxExp)), is(of(129, maxExp-7))}},
		{of(511, maxExp-9), 8, bounds{is(of(255, maxExp-8)), is(of(1, maxExp))}},
		{full(maxBits, maxExp), 256, bounds{over(), over()}},
		{full(maxBits, maxExp-maxBits+256), 256, bounds{is(full(256, maxExp)), over()}},
		{full(maxBits, maxExp-maxBits), 256, bounds{is(full(256, maxExp-256)), is(of(1, maxExp))}},
		{full(maxBits, maxExp-maxBits+1), 256, bounds{is(full(256, maxExp-255)), over()}},
		{full(maxBits, -maxExp), 8, bounds{is(of(255, maxBits-8-maxExp)), is(of(1, maxBits-maxExp))}},
	} {
		expectFit(t, x.x, x.prec, x.want)
	}
}

// TestFitDefinition holds Fit against all numbers of so many bits.
func TestFitDefinition(t *testing.T) {
	for _, prec := range []int{8, 9, 11} {
		numbers := numbersOf(prec, 13-prec)
		for value := int64(-1 << 12); value <= 1<<12; value++ {
			i, found := slices.BinarySearch(numbers, value)
			up, down := numbers[i], numbers[i]
			if !found {
				down = numbers[i-1]
			}
			expect(t, "Fit", asOperation, odd(value, 0), api.Num{}, prec, bounds{is(odd(down, 0)), is(odd(up, 0))})
		}
	}
}

// numbersOf are all m times 2^e, with m of prec bits and e from 0 to most, in
// ascending order.
func numbersOf(prec, most int) []int64 {
	var numbers []int64
	for e := range most + 1 {
		for m := 1 - int64(1)<<prec; m < 1<<prec; m++ {
			numbers = append(numbers, m<<e)
		}
	}
	slices.Sort(numbers)
	return slices.Compact(numbers)
}

// odd is the valid number m times 2^exp.
func odd(m, exp int64) api.Num {
	if m == 0 {
		return api.Num{}
	}
	for m%2 == 0 {
		m, exp = m/2, exp+1
	}
	return of(m, exp)
}
