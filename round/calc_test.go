package round

import (
	"slices"
	"testing"

	"fathomline/api"
)

// P3.2

func operations() map[string]operation {
	return map[string]operation{"Add": Add, "Sub": Sub, "Mul": Mul, "Div": Div}
}

// expectCalc holds an operation against its bounds, with what follows for
// negated numbers and for numbers that change places.
func expectCalc(t *testing.T, name string, a, b api.Num, prec int, want bounds) {
	t.Helper()
	call := operations()[name]
	expect(t, name, call, a, b, prec, want)
	switch name {
	case "Add":
		expect(t, "Add", Add, b, a, prec, want)
		expect(t, "Add", Add, minus(a), minus(b), prec, want.minus())
		expect(t, "Sub", Sub, a, minus(b), prec, want)
		expect(t, "Sub", Sub, minus(b), a, prec, want.minus())
	case "Sub":
		expect(t, "Sub", Sub, b, a, prec, want.minus())
		expect(t, "Sub", Sub, minus(a), minus(b), prec, want.minus())
		expect(t, "Add", Add, a, minus(b), prec, want)
		expect(t, "Add", Add, b, minus(a), prec, want.minus())
	default:
		expect(t, name, call, minus(a), b, prec, want.minus())
		expect(t, name, call, a, minus(b), prec, want.minus())
		expect(t, name, call, minus(a), minus(b), prec, want)
	}
	if name == "Mul" {
		expect(t, "Mul", Mul, b, a, prec, want)
	}
}

// calc is a row of a table: what a and b give, rounded down and up.
type calc struct {
	name     string
	a, b     api.Num
	prec     int
	down, up outcome
}

func expectAll(t *testing.T, rows []calc) {
	t.Helper()
	for _, x := range rows {
		expectCalc(t, x.name, x.a, x.b, x.prec, bounds{x.down, x.up})
	}
}

func TestExamples(t *testing.T) {
	expectCalc(t, "Div", of(1, 0), of(3, 0), 8, bounds{is(of(85, -8)), is(of(171, -9))})
}

func TestCalc(t *testing.T) {
	expectAll(t, []calc{
		{"Add", of(1, 0), of(1, -20), 8, is(of(1, 0)), is(of(129, -7))},
		{"Add", of(201, 0), of(55, 0), 8, is(of(1, 8)), is(of(1, 8))},
		{"Add", of(201, 0), of(57, 0), 8, is(of(129, 1)), is(of(129, 1))},
		{"Add", of(255, 0), of(1, 1), 8, is(of(1, 8)), is(of(129, 1))},
		{"Add", of(255, 0), of(1, -1), 8, is(of(255, 0)), is(of(1, 8))},
		{"Add", of(1, 300), of(1, 0), 256, is(of(1, 300)), is(above(256, 300))},
		{"Sub", of(1, 0), of(1, -20), 8, is(of(255, -8)), is(of(1, 0))},
		{"Sub", of(1, 0), of(1, -8), 8, is(of(255, -8)), is(of(255, -8))},
		{"Sub", of(1, 0), of(1, -9), 8, is(of(255, -8)), is(of(1, 0))},
		{"Sub", of(1, 64), of(1, 0), 63, is(below(63, 64)), is(of(1, 64))},
		{"Sub", of(1, 64), of(1, 0), 64, is(words(0, all)), is(words(0, all))},
		{"Mul", of(17, 0), of(17, 0), 8, is(of(9, 5)), is(of(145, 1))},
		{"Mul", of(17, -9), of(17, 2), 9, is(of(289, -7)), is(of(289, -7))},
		{"Mul", of(255, 0), of(255, 0), 8, is(of(127, 9)), is(of(255, 8))},
		{"Mul", full(128, 0), full(128, 0), 128, is(below(127, 256)), is(below(128, 256))},
		{"Div", of(255, 0), of(257, 0), 8, is(of(127, -7)), is(of(255, -8))},
		{"Div", of(1, 0), of(5, 0), 8, is(of(51, -8)), is(of(205, -10))},
		{"Div", of(11, 0), of(7, 0), 8, is(of(201, -7)), is(of(101, -6))},
	})
}

// TestCalcZero: 0 is a number like others, but not to divide by.
func TestCalcZero(t *testing.T) {
	var zero api.Num
	for _, prec := range inside() {
		for _, x := range []api.Num{of(1, 0), of(3, 60), of(255, -maxExp), of(255, maxExp), {}} {
			expectCalc(t, "Add", x, zero, prec, bounds{is(x), is(x)})
			expectCalc(t, "Sub", x, zero, prec, bounds{is(x), is(x)})
			expectCalc(t, "Sub", x, x, prec, bounds{is(zero), is(zero)})
			expectCalc(t, "Mul", x, zero, prec, bounds{is(zero), is(zero)})
			if !isZero(x) {
				expectCalc(t, "Div", zero, x, prec, bounds{is(zero), is(zero)})
			}
		}
		x := wide(maxBits, maxExp)
		expectCalc(t, "Sub", x, x, prec, bounds{is(zero), is(zero)})
		expectCalc(t, "Mul", x, zero, prec, bounds{is(zero), is(zero)})
		expectCalc(t, "Div", zero, x, prec, bounds{is(zero), is(zero)})
	}
	// 0 and a number of more bits: the number is rounded.
	expectCalc(t, "Add", of(257, 0), zero, 8, bounds{is(of(1, 8)), is(of(129, 1))})
	expectCalc(t, "Sub", of(257, 0), zero, 8, bounds{is(of(1, 8)), is(of(129, 1))})
}

// TestDivExact has quotients of so many bits, with a remainder of 0, and ones
// that end but have more bits than stay.
func TestDivExact(t *testing.T) {
	for _, prec := range inside() {
		for _, q := range []api.Num{of(1, 0), of(3, 5), full(prec, 9), wide(prec, -40)} {
			for _, b := range []api.Num{of(1, 0), of(1, -100), of(7, 3), full(300, 0), wide(3000, 11)} {
				a := exactly(q, b)
				expectCalc(t, "Div", a, b, prec, bounds{is(q), is(q)})
				expectCalc(t, "Div", a, q, prec, roundedBoth(valueOf(b), one(), prec))
			}
		}
		q := wide(prec+1, 0)
		for _, b := range []api.Num{of(1, 0), of(5, 0), wide(2000, -1)} {
			expectCalc(t, "Div", exactly(q, b), b, prec, bounds{is(of(1, int64(prec))), is(above(prec, int64(prec)))})
		}
	}
	expectAll(t, []calc{
		{"Div", of(15, 4), of(5, 0), 8, is(of(3, 4)), is(of(3, 4))},
		{"Div", of(1, 0), of(1, -100), 8, is(of(1, 100)), is(of(1, 100))},
		{"Div", of(1, maxExp), of(1, maxExp), 8, is(of(1, 0)), is(of(1, 0))},
		{"Div", wide(maxBits, 7), wide(maxBits, 9), 8, is(of(1, -2)), is(of(1, -2))},
		{"Div", wide(maxBits, 7), of(1, 9), 8, is(of(1, maxBits-3)), is(above(8, maxBits-3))},
	})
}

// exactly is a times b, which a valid number has.
func exactly(a, b api.Num) api.Num { return outcomeOf(valueOf(a).times(valueOf(b))).x }

// TestDivInexact has quotients next to a number of few bits: only what is
// below the bits that stay tells on which side they are.
func TestDivInexact(t *testing.T) {
	for _, prec := range inside() {
		for _, size := range []int{prec + 2, prec + 3, 400, maxBits} {
			top := int64(size - 1)
			expectCalc(t, "Div", wide(size, 0), of(1, 0), prec, bounds{is(of(1, top)), is(above(prec, top))})
			expectCalc(t, "Div", of(1, 0), wide(size, 0), prec, bounds{is(below(prec, -top)), is(of(1, -top))})
			expectCalc(t, "Div", of(1, 0), full(size, 0), prec, bounds{is(of(1, -top-1)), is(above(prec, -top-1))})
			expectCalc(t, "Div", full(size, 0), wide(size, 0), prec, bounds{is(below(prec, 1)), is(of(1, 1))})
			expectCalc(t, "Div", of(3, 0), full(size, 0), 8, bounds{is(of(3, -top-1)), is(of(193, -top-7))})
		}
	}
}

func TestOperandsInvalid(t *testing.T) {
	valid := []api.Num{{}, of(1, 0), of(-257, 0), full(maxBits, maxExp), of(1, -maxExp)}
	for name, call := range operations() {
		form := func(a, b api.Num, prec int, what string) {
			t.Helper()
			for _, up := range directions() {
				if got, err := call(a, b, prec, up); err != api.ErrForm || !isZero(got) {
					t.Errorf("%s to %d bits, up %v: %s: %v, %d", name, prec, up, what, got, err)
				}
			}
		}
		for rule, x := range invalid() {
			for _, prec := range []int{api.MinPrec, 64, api.MaxPrec, api.MinPrec - 1, api.MaxPrec + 1} {
				for _, y := range valid {
					form(x, y, prec, rule+" first")
					form(y, x, prec, rule+" second")
				}
				form(x, x, prec, rule+" twice")
			}
		}
		for _, prec := range outside() {
			for _, a := range valid {
				for _, b := range valid {
					form(a, b, prec, "prec out of range")
				}
			}
		}
	}
}

func TestPrecBounds(t *testing.T) {
	for _, prec := range []int{api.MinPrec, api.MaxPrec} {
		x := of(1, 0)
		tiny := of(1, -1000)
		expectCalc(t, "Add", x, tiny, prec, bounds{is(x), is(above(prec, 0))})
		expectCalc(t, "Sub", x, tiny, prec, bounds{is(below(prec, 0)), is(x)})
		expectCalc(t, "Mul", wide(1000, 0), x, prec, bounds{is(of(1, 999)), is(above(prec, 999))})
		expectCalc(t, "Div", wide(1000, 0), x, prec, bounds{is(of(1, 999)), is(above(prec, 999))})
	}
}

// TestDivByZero: ErrForm goes ahead of ErrZero, and ErrZero of all else.
func TestDivByZero(t *testing.T) {
	var zero api.Num
	for _, up := range directions() {
		for _, prec := range inside() {
			for _, a := range []api.Num{zero, {W: []uint64{}}, of(1, 0), of(-3, 9), of(1, maxExp), full(maxBits, maxExp), of(1, -maxExp)} {
				for _, b := range []api.Num{zero, {W: []uint64{}}} {
					if got, err := Div(a, b, prec, up); err != api.ErrZero || !isZero(got) {
						t.Errorf("Div(%v, 0, %d, %v) = %v, %d", a, prec, up, got, err)
					}
				}
			}
			for rule, a := range invalid() {
				if got, err := Div(a, zero, prec, up); err != api.ErrForm || !isZero(got) {
					t.Errorf("Div by 0 to %d bits: %s: %v, %d", prec, rule, got, err)
				}
			}
		}
		for _, prec := range outside() {
			for _, a := range []api.Num{zero, of(1, 0)} {
				if got, err := Div(a, zero, prec, up); err != api.ErrForm || !isZero(got) {
					t.Errorf("Div by 0 to %d bits: %v, %d", prec, got, err)
				}
			}
		}
		// What looks like 0 but is not valid is no 0.
		for _, b := range []api.Num{{Neg: true}, {Exp: 1}, words(0, 0)} {
			if got, err := Div(of(1, 0), b, 8, up); err != api.ErrForm || !isZero(got) {
				t.Errorf("Div by %v: %v, %d", b, got, err)
			}
		}
	}
}

// TestRoundedIsNumber has exact results that no valid number has: too many
// bits, or an exponent beyond a bound. The rounded values are numbers.
func TestRoundedIsNumber(t *testing.T) {
	top, low := of(1, maxExp), of(1, -maxExp)
	expectAll(t, []calc{
		// as far apart as can be
		{"Add", top, low, 8, is(top), is(above(8, maxExp))},
		{"Add", top, low, 256, is(top), is(above(256, maxExp))},
		{"Sub", top, low, 8, is(below(8, maxExp)), is(top)},
		{"Sub", top, low, 256, is(below(256, maxExp)), is(top)},
		{"Add", wide(maxBits, maxExp-maxBits), full(maxBits, -maxExp), 64, is(of(1, maxExp-1)), is(above(64, maxExp-1))},
		// too many bits
		{"Add", of(1, maxBits), of(1, 0), 8, is(of(1, maxBits)), is(above(8, maxBits))},
		{"Mul", full(maxBits, 0), full(maxBits, 0), 8, is(below(8, 2*maxBits)), is(of(1, 2*maxBits))},
		{"Mul", wide(maxBits, -100), wide(maxBits, 9), 200, is(of(1, 2*maxBits-93)), is(above(200, 2*maxBits-93))},
		// an exponent below -MaxExp
		{"Mul", wide(300, -maxExp), wide(300, -200), 100, is(of(1, 398-maxExp)), is(above(100, 398-maxExp))},
		{"Mul", full(300, -maxExp), full(300, -300), 100, is(below(100, 300-maxExp)), is(of(1, 300-maxExp))},
		{"Mul", of(511, -maxExp), of(1, -2), 8, over(), is(of(1, 7-maxExp))},
		{"Mul", of(257, -maxExp), of(1, -1), 8, is(of(1, 7-maxExp)), is(of(129, -maxExp))},
		{"Div", of(511, -maxExp), of(1, 1), 8, is(of(255, -maxExp)), is(of(1, 8-maxExp))},
		// a quotient that has no end
		{"Div", wide(400, maxExp), wide(500, 0), 8, is(of(1, maxExp-100)), is(above(8, maxExp-100))},
		{"Div", of(1, maxExp), full(100, 0), 8, is(of(1, maxExp-100)), is(above(8, maxExp-100))},
		{"Div", of(1, 20-maxExp), full(20, 0), 8, is(low), over()},
		{"Div", of(1, 19-maxExp), wide(20, 0), 8, over(), is(low)},
	})
}

// TestRoundedIsNone has rounded values that no valid number has. Where they
// are just beyond a bound, one direction may still be a number.
func TestRoundedIsNone(t *testing.T) {
	top, low := of(1, maxExp), of(1, -maxExp)
	for _, prec := range inside() {
		for _, x := range []struct {
			name string
			a, b api.Num
		}{
			{"Add", top, top}, {"Sub", of(3, maxExp), top}, {"Add", full(maxBits, maxExp), full(maxBits, maxExp)},
			{"Mul", top, of(1, 1)}, {"Mul", top, top}, {"Mul", low, of(1, -1)}, {"Mul", low, low},
			{"Div", top, of(1, -1)}, {"Div", top, low}, {"Div", low, of(1, 1)}, {"Div", low, top}, {"Div", low, of(3, 0)},
			{"Div", wide(maxBits, maxExp), of(3, 0)}, {"Mul", wide(maxBits, maxExp), wide(maxBits, maxExp)},
		} {
			expectCalc(t, x.name, x.a, x.b, prec, bounds{over(), over()})
		}
	}
	expectAll(t, []calc{
		{"Add", of(255, maxExp), of(1, -1), 8, is(of(255, maxExp)), over()},
		{"Sub", of(1, maxExp), of(1, -1), 8, is(of(255, maxExp-8)), is(top)},
		{"Sub", of(129, maxExp), of(1, 0), 8, over(), is(of(129, maxExp))},
		{"Mul", of(15, maxExp), of(17, 0), 8, is(of(255, maxExp)), is(of(255, maxExp))},
		{"Mul", of(17, maxExp-1), of(17, 0), 8, over(), is(of(145, maxExp))},
		{"Mul", of(15, -maxExp), of(17, -1), 8, over(), over()},
		{"Mul", of(3, -maxExp), of(171, -1), 8, is(of(1, 8-maxExp)), is(of(129, 1-maxExp))},
		{"Div", of(1, 8-maxExp), of(3, 0), 8, is(of(85, -maxExp)), over()},
		{"Div", of(1, 9-maxExp), of(3, 0), 8, is(of(85, 1-maxExp)), is(of(171, -maxExp))},
		{"Div", of(5, maxExp), of(3, -7), 8, is(of(213, maxExp)), over()},
		{"Div", of(5, maxExp), of(3, -8), 8, over(), over()},
	})
}

// TestDivDefinition holds small quotients against all numbers of 8 bits.
func TestDivDefinition(t *testing.T) {
	const unit = 20 // the numbers are in units of 2^-20
	numbers := numbersOf(8, unit+8)
	for a := int64(-60); a <= 60; a++ {
		for b := int64(1); b <= 60; b++ {
			i, found := slices.BinarySearchFunc(numbers, a<<unit, func(m, value int64) int {
				return int(m*b - value)
			})
			down, up := numbers[i], numbers[i]
			if !found {
				down = numbers[i-1]
			}
			want := bounds{is(odd(down, -unit)), is(odd(up, -unit))}
			expect(t, "Div", Div, odd(a, 0), odd(b, 0), 8, want)
			expect(t, "Div", Div, odd(a, 0), odd(-b, 0), 8, want.minus())
		}
	}
}
