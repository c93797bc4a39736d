package iv

import (
	"math"
	"math/big"
	"slices"
	"testing"

	"fathomline/api"
)

// P5.2

// outside are values of prec that are out of range.
func outside() []int {
	return []int{api.MinPrec - 1, api.MaxPrec + 1, 0, 1, -1, -api.MinPrec, -api.MaxPrec, math.MaxInt32, math.MaxInt, math.MinInt}
}

// calc is a row of a table: what a and b give.
type calc struct {
	name string
	a, b api.Iv
	prec int
	want api.Iv
	err  api.Errno
}

func expectAll(t *testing.T, rows []calc) {
	t.Helper()
	for _, x := range rows {
		got, err := operations()[x.name](x.a, x.b, x.prec)
		if err != x.err || !equalIv(got, x.want) {
			t.Errorf("%s of %v, %v to %d bits: %v, %d, not %v, %d", x.name, x.a, x.b, x.prec, got, err, x.want, x.err)
		}
	}
}

func TestExamples(t *testing.T) {
	expectAll(t, []calc{{"Mul", ints(-1, 2), ints(3, 4), 8, ints(-4, 8), api.OK}})
	if got, err := Pow(ints(-1, 2), 2, 8); err != api.OK || !equalIv(got, ints(0, 4)) {
		t.Errorf("Pow([-1, 2], 2) = %v, %d", got, err)
	}
}

// TestDefinition holds small results against those of all integers of the
// operands. All of them are numbers of so many bits.
func TestDefinition(t *testing.T) {
	const most = 4
	single := map[string]func(x, y int64) int64{
		"Add": func(x, y int64) int64 { return x + y },
		"Sub": func(x, y int64) int64 { return x - y },
		"Mul": func(x, y int64) int64 { return x * y },
		"Div": func(x, y int64) int64 { return 12 * x / y }, // exact, for a whose ends are multiplied by 12
	}
	for p := int64(-most); p <= most; p++ {
		for q := p; q <= most; q++ {
			for r := int64(-most); r <= most; r++ {
				for s := r; s <= most; s++ {
					for name, calc := range single {
						a, b := ints(p, q), ints(r, s)
						if name == "Div" {
							if r <= 0 && s >= 0 {
								continue
							}
							a = ints(12*p, 12*q)
						}
						var results []int64
						for x := p; x <= q; x++ {
							for y := r; y <= s; y++ {
								results = append(results, calc(x, y))
							}
						}
						want := ints(slices.Min(results), slices.Max(results))
						if got, err := operations()[name](a, b, 8); err != api.OK || !equalIv(got, want) {
							t.Errorf("%s of %v, %v = %v, %d", name, a, b, got, err)
						}
					}
				}
			}
		}
	}
}

// TestOutward: the lower end is rounded down and the upper end up, whatever
// their signs.
func TestOutward(t *testing.T) {
	tiny := of(1, -1000)
	for _, prec := range inside() {
		one, more, less := of(1, 0), above(prec, 0), below(prec, 0)
		third := from(third(prec, false), third(prec, true))
		expectAll(t, []calc{
			{"Add", point(one), point(tiny), prec, from(one, more), api.OK},
			{"Add", point(one), point(minus(tiny)), prec, from(less, one), api.OK},
			{"Add", point(minus(one)), point(tiny), prec, from(minus(one), minus(less)), api.OK},
			{"Add", from(minus(one), one), from(minus(tiny), tiny), prec, from(minus(more), more), api.OK},
			{"Sub", point(one), point(tiny), prec, from(less, one), api.OK},
			{"Sub", from(minus(one), one), from(minus(tiny), tiny), prec, from(minus(more), more), api.OK},
			{"Sub", ints(0, 0), point(wide(prec+1, -int64(prec))), prec, from(minus(more), minus(one)), api.OK},
			{"Mul", point(wide(prec+1, -int64(prec))), point(one), prec, from(one, more), api.OK},
			{"Mul", point(wide(prec+1, -int64(prec))), from(minus(one), one), prec, from(minus(more), more), api.OK},
			{"Div", point(one), ints(3, 3), prec, third, api.OK},
			{"Div", point(one), ints(-3, -3), prec, Neg(third), api.OK},
			{"Div", from(minus(one), one), ints(3, 5), prec, from(minus(third.Hi), third.Hi), api.OK},
			{"Div", from(minus(one), one), ints(-5, -3), prec, from(minus(third.Hi), third.Hi), api.OK},
		})
	}
}

// third is 1/3 rounded to prec bits, whose bits are 1 and 0 in turn.
func third(prec int, up bool) api.Num {
	x, _ := one().over(dyadic{big.NewInt(3), 0}).rounded(prec, up).number()
	return x
}

// TestOneEndpointOver has results of which just one endpoint, or both, have no
// valid number.
func TestOneEndpointOver(t *testing.T) {
	top, low, high := of(1, maxExp), of(1, -maxExp), of(255, maxExp)
	for _, x := range []struct {
		name string
		a, b api.Iv
	}{
		{"Add", point(top), from(of(-1, 0), top)},
		{"Add", point(minus(top)), from(minus(top), of(1, 0))},
		{"Add", point(top), point(top)},
		{"Sub", point(top), from(minus(top), of(1, 0))},
		{"Sub", point(minus(top)), from(of(-1, 0), top)},
		{"Mul", from(low, of(1, 0)), from(of(1, -1), of(1, 0))},
		{"Mul", from(of(-1, 0), minus(low)), from(of(1, -1), of(1, 0))},
		{"Mul", from(of(1, 0), top), ints(1, 2)},
		{"Mul", from(minus(top), top), ints(-1, 2)},
		{"Mul", from(minus(top), top), ints(-2, 1)},
		{"Mul", from(of(-1, -1), of(1, 0)), from(minus(low), of(171, -maxExp))},
		{"Div", from(low, of(1, 0)), ints(1, 2)},
		{"Div", from(of(1, 0), top), from(of(1, -1), of(1, 0))},
		{"Div", from(of(1, 0), top), from(of(-1, 0), of(-1, -1))},
		{"Div", ints(0, 1), from(of(3, maxExp), of(5, maxExp))},
	} {
		expectAll(t, []calc{{x.name, x.a, x.b, 8, api.Iv{}, api.ErrOver}})
	}
	// A value rounded outward just beyond a bound.
	expectAll(t, []calc{
		{"Add", point(high), from(api.Num{}, low), 8, api.Iv{}, api.ErrOver},
		{"Add", point(high), from(api.Num{}, low), 9, from(high, of(511, maxExp-1)), api.OK},
		{"Sub", from(minus(high), high), from(api.Num{}, low), 8, api.Iv{}, api.ErrOver},
		{"Sub", point(high), from(api.Num{}, low), 8, api.Iv{}, api.ErrOver}, // 254 times 2^MaxExp
		{"Sub", point(top), from(api.Num{}, low), 8, from(below(8, maxExp), top), api.OK},
	})
}

// TestOtherProductsOver has products beyond the limits that are no ends.
func TestOtherProductsOver(t *testing.T) {
	low, top := of(1, -maxExp), of(1, maxExp)
	expectAll(t, []calc{
		{"Mul", from(of(-1, 0), low), from(of(-1, 0), low), 8, from(minus(low), of(1, 0)), api.OK},
		{"Mul", from(minus(low), of(1, 0)), from(of(-1, 0), low), 8, from(of(-1, 0), low), api.OK},
		{"Mul", from(low, of(1, 0)), from(minus(low), of(1, 0)), 8, from(minus(low), of(1, 0)), api.OK},
		{"Mul", from(api.Num{}, top), from(low, of(1, 0)), 8, from(api.Num{}, top), api.OK},
		// 255 is the greater size, and 254 times 2^MaxExp would be no number.
		{"Mul", from(of(-1, 0), of(255, -8)), from(of(-509, maxExp-1), of(255, maxExp)), 8, from(of(-255, maxExp), of(255, maxExp)), api.OK},
		{"Mul", from(of(-255, -8), of(1, 0)), from(of(-255, maxExp), of(509, maxExp-1)), 8, from(of(-255, maxExp), of(255, maxExp)), api.OK},
		{"Mul", from(of(-509, maxExp-1), of(255, maxExp)), from(of(-1, 0), of(255, -8)), 8, from(of(-255, maxExp), of(255, maxExp)), api.OK},
		// Exponents as far apart as can be, in both orders.
		{"Mul", from(minus(low), top), from(minus(low), of(1, 0)), 8, from(of(-1, 0), top), api.OK},
		{"Mul", from(minus(top), low), from(of(-1, 0), low), 8, from(of(-1, 0), top), api.OK},
		{"Mul", from(minus(low), low), from(minus(top), top), 8, ints(-1, 1), api.OK},
		{"Mul", from(minus(top), low), from(minus(low), top), 8, api.Iv{}, api.ErrOver},
	})
}

// TestWideProducts compares products of more bits than a number has.
func TestWideProducts(t *testing.T) {
	x, y := full(maxBits, -maxBits), wide(maxBits, 1-maxBits)
	for _, prec := range []int{8, 256} {
		checkCalc(t, from(minus(x), x), from(minus(x), x), prec)
		checkCalc(t, from(minus(x), y), from(minus(y), x), prec)
		checkCalc(t, from(minus(y), x), from(minus(y), x), prec)
		checkCalc(t, from(minus(x), of(1, 0)), from(minus(y), of(1, 0)), prec)
	}
}

func TestOperandsInvalid(t *testing.T) {
	for name, call := range operations() {
		form := func(a, b api.Iv, prec int, what string) {
			t.Helper()
			if got, err := call(a, b, prec); err != api.ErrForm || !isZeroIv(got) {
				t.Errorf("%s to %d bits: %s: %v, %d", name, prec, what, got, err)
			}
		}
		for rule, a := range invalidIvs() {
			for _, prec := range []int{api.MinPrec, 64, api.MaxPrec, api.MinPrec - 1, api.MaxPrec + 1} {
				for _, b := range validIvs() {
					form(a, b, prec, rule+", first")
					form(b, a, prec, rule+", second")
				}
				form(a, a, prec, rule+", twice")
			}
		}
		for _, prec := range outside() {
			for _, a := range validIvs() {
				for _, b := range validIvs() {
					form(a, b, prec, "prec out of range")
				}
			}
		}
	}
}

// TestDivByZero: ErrForm goes ahead of ErrZero, and ErrZero of ErrOver.
func TestDivByZero(t *testing.T) {
	low, top := of(1, -maxExp), of(1, maxExp)
	zeros := []api.Iv{
		ints(0, 0), {Lo: api.Num{W: []uint64{}}}, ints(-1, 1), ints(0, 5), ints(-5, 0),
		from(minus(low), low), from(api.Num{}, low), from(minus(low), api.Num{}), from(minus(top), low),
	}
	for _, b := range zeros {
		for _, prec := range inside() {
			for _, a := range validIvs() {
				expectAll(t, []calc{{"Div", a, b, prec, api.Iv{}, api.ErrZero}})
			}
		}
		for _, prec := range outside() {
			expectAll(t, []calc{{"Div", ints(1, 2), b, prec, api.Iv{}, api.ErrForm}})
		}
		for _, a := range invalidIvs() {
			expectAll(t, []calc{{"Div", a, b, 8, api.Iv{}, api.ErrForm}})
		}
	}
	expectAll(t, []calc{
		{"Div", ints(1, 2), ints(1, -1), 8, api.Iv{}, api.ErrForm},
		{"Div", ints(1, 2), from(of(-1, 0), api.Num{Neg: true}), 8, api.Iv{}, api.ErrForm},
		{"Div", ints(0, 0), from(low, top), 8, ints(0, 0), api.OK},
		{"Div", ints(0, 0), from(minus(top), minus(low)), 8, ints(0, 0), api.OK},
		{"Div", point(low), point(low), 8, ints(1, 1), api.OK},
	})
}

func TestPow(t *testing.T) {
	for _, x := range []struct {
		a    api.Iv
		k    int
		want api.Iv
	}{
		{ints(-3, 2), 0, ints(1, 1)}, {ints(0, 0), 0, ints(1, 1)}, {point(full(maxBits, maxExp)), 0, ints(1, 1)},
		{ints(-3, 2), 1, ints(-3, 2)}, {ints(0, 0), 1, ints(0, 0)}, {ints(0, 0), 8, ints(0, 0)},
		{ints(-3, 2), 2, ints(0, 9)}, {ints(-2, 3), 2, ints(0, 9)}, {ints(-3, -2), 2, ints(4, 9)}, {ints(2, 3), 2, ints(4, 9)},
		{ints(0, 3), 2, ints(0, 9)}, {ints(-3, 0), 2, ints(0, 9)}, {ints(-3, 3), 2, ints(0, 9)}, {ints(-3, -3), 2, ints(9, 9)},
		{ints(-3, 2), 3, ints(-27, 8)}, {ints(-3, -2), 3, ints(-27, -8)}, {ints(2, 3), 3, ints(8, 27)},
		{ints(-2, 1), 7, ints(-128, 1)}, {ints(-2, 1), 8, ints(0, 256)}, {ints(1, 2), 8, ints(1, 256)}, {ints(-2, -1), 8, ints(1, 256)},
		{ints(17, 17), 2, from(of(9, 5), of(145, 1))}, {ints(-17, -17), 2, from(of(9, 5), of(145, 1))}, {ints(-17, 17), 2, from(api.Num{}, of(145, 1))},
		{ints(257, 257), 1, from(of(1, 8), of(129, 1))}, {ints(-257, -257), 1, from(of(-129, 1), of(-1, 8))},
	} {
		if got, err := Pow(x.a, x.k, 8); err != api.OK || !equalIv(got, x.want) {
			t.Errorf("Pow(%v, %d, 8) = %v, %d", x.a, x.k, got, err)
		}
	}
	for p := int64(-5); p <= 5; p++ {
		for q := p; q <= 5; q++ {
			for k := range api.MaxDeg + 1 {
				checkPow(t, ints(p, q), k, 8)
				checkPow(t, ints(p, q), k, api.MaxPrec)
			}
		}
	}
}

func TestPowInvalid(t *testing.T) {
	form := func(a api.Iv, k, prec int, what string) {
		t.Helper()
		if got, err := Pow(a, k, prec); err != api.ErrForm || !isZeroIv(got) {
			t.Errorf("Pow(%v, %d, %d): %s: %v, %d", a, k, prec, what, got, err)
		}
	}
	for rule, a := range invalidIvs() {
		for _, k := range []int{-1, 0, 1, 2, api.MaxDeg, api.MaxDeg + 1} {
			form(a, k, 8, rule)
			form(a, k, 7, rule)
		}
	}
	for _, a := range validIvs() {
		for _, k := range []int{-1, api.MaxDeg + 1, math.MinInt, math.MaxInt, -2, 1 << 32, 1 << 40} {
			form(a, k, 8, "k out of range")
		}
		for _, prec := range outside() {
			for _, k := range []int{0, 1, 2, api.MaxDeg} {
				form(a, k, prec, "prec out of range")
			}
		}
	}
}

// TestPowOver: an end may be beyond a limit, but what is no end does not count.
func TestPowOver(t *testing.T) {
	tiny, huge := of(1, -40000), of(1, 40000)
	for _, x := range []struct {
		a    api.Iv
		k    int
		want api.Iv
		err  api.Errno
	}{
		{from(tiny, of(1, 0)), 2, api.Iv{}, api.ErrOver},
		{from(of(-1, 0), minus(tiny)), 2, api.Iv{}, api.ErrOver},
		{from(minus(tiny), of(1, 0)), 2, ints(0, 1), api.OK},
		{from(of(-1, 0), tiny), 2, ints(0, 1), api.OK},
		{from(minus(tiny), of(1, 0)), 3, api.Iv{}, api.ErrOver},
		{from(api.Num{}, of(1, 0)), 3, ints(0, 1), api.OK},
		{from(of(1, 0), huge), 2, api.Iv{}, api.ErrOver},
		{from(minus(huge), of(1, 0)), 3, api.Iv{}, api.ErrOver},
		{from(minus(huge), of(1, 0)), 1, from(minus(huge), of(1, 0)), api.OK},
		{from(minus(huge), huge), 0, ints(1, 1), api.OK},
		{point(of(1, 8192)), 8, point(of(1, maxExp)), api.OK},
		{point(of(1, 8193)), 8, api.Iv{}, api.ErrOver},
		{point(of(-1, -8192)), 8, point(of(1, -maxExp)), api.OK},
		{point(of(1, -8193)), 8, api.Iv{}, api.ErrOver},
		{point(of(1, maxExp)), 8, api.Iv{}, api.ErrOver},
		{point(of(-1, -maxExp)), 7, api.Iv{}, api.ErrOver},
		// The exact power's exponent is below the least one, the rounded power's is not.
		{point(of(257, -maxExp/2-1)), 2, from(of(129, 7-maxExp), of(65, 8-maxExp)), api.OK},
	} {
		if got, err := Pow(x.a, x.k, 8); err != x.err || !equalIv(got, x.want) {
			t.Errorf("Pow(%v, %d, 8) = %v, %d, not %v, %d", x.a, x.k, got, err, x.want, x.err)
		}
	}
}

// TestPowWide has powers of many times the bits of a number. They are rounded
// once: what is below the bits that stay may be at any place.
func TestPowWide(t *testing.T) {
	for _, prec := range inside() {
		for _, size := range []int{prec + 9, 511, 512, 513, 1025, 2049, maxBits - 1, maxBits} {
			for _, k := range []int{1, 2, 3, 5, 8} {
				top := int64(size-1) * int64(k)
				expectPow(t, wide(size, 0), k, prec, from(of(1, top), above(prec, top)))
				expectPow(t, full(size, -7), k, prec, from(below(prec, top+int64(k)-7*int64(k)), of(1, top+int64(k)-7*int64(k))))
			}
		}
	}
}

// expectPow holds the powers of x and -x against their bounds.
func expectPow(t *testing.T, x api.Num, k, prec int, want api.Iv) {
	t.Helper()
	if got, err := Pow(point(x), k, prec); err != api.OK || !equalIv(got, want) {
		t.Errorf("Pow of a number of %d words to %d, %d bits: %v, %d, not %v", len(x.W), k, prec, got, err, want)
	}
	if k%2 == 1 {
		want = from(minus(want.Hi), minus(want.Lo))
	}
	if got, err := Pow(point(minus(x)), k, prec); err != api.OK || !equalIv(got, want) {
		t.Errorf("Pow of a negated number of %d words to %d, %d bits: %v, %d, not %v", len(x.W), k, prec, got, err, want)
	}
}

// TestPowNear takes roots of numbers of few bits, cut off at the most bits
// that a number has: their powers are as near to these numbers as can be, on
// either side.
func TestPowNear(t *testing.T) {
	for r := int64(129); r < 256; r += 2 {
		for roots, k := range []int{1, 2, 4, 8} {
			root := new(big.Int).Lsh(big.NewInt(r), uint(maxBits*k-8))
			for range roots {
				root.Sqrt(root)
			}
			x, err := dyadic{root.SetBit(root, 0, 1), -maxBits}.number()
			if err != api.OK {
				t.Fatalf("the root of %d to %d is no number", r, k)
			}
			checkPow(t, point(x), k, 8)
			checkPow(t, from(minus(x), of(1, 0)), k, api.MaxPrec)
		}
	}
}
