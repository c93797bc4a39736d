package flow

import (
	"slices"
	"testing"

	"fathomline/api"
)

// P15.1

// expands expects the coefficients, of which each order has as many as it says.
func expands(t *testing.T, f [][]api.Mono, x []api.Iv, prec int, want ...[]api.Iv) {
	t.Helper()
	for order := range want[0] {
		var l [][]api.Iv
		for _, a := range want {
			l = append(l, a[:order+1])
		}
		checkSeries(t, f, x, order, prec, l, api.OK)
	}
}

// third is one third to 8 bits.
func third() api.Iv { return from(of(85, -8), of(171, -9)) }

func half() api.Iv { return point(of(1, -1)) }

func TestSeries(t *testing.T) {
	grows := fieldOf(list(mono(1, 1)))
	sixth, twentyFourth := from(of(85, -9), of(171, -10)), from(of(85, -11), of(171, -12))
	expands(t, grows, ints(1), 8, intervals(spanOf(1, 1), spanOf(1, 1), half(), sixth, twentyFourth))
	expands(t, grows, ints(0), 8, ints(0, 0, 0, 0, 0, 0, 0, 0, 0, 0, 0))
	expands(t, grows, ints(3628800), 32, ints(3628800, 3628800, 1814400, 604800, 151200, 30240, 5040, 720, 90, 10, 1))
	expands(t, grows, ints(-3628800), 32, ints(-3628800, -3628800, -1814400, -604800, -151200, -30240, -5040, -720, -90, -10, -1))
	expands(t, grows, intervals(spanOf(-24, 120)), 8, intervals(spanOf(-24, 120), spanOf(-24, 120), spanOf(-12, 60), spanOf(-4, 20), spanOf(-1, 5)))
	// Without terms, and constants.
	expands(t, fieldOf(nil), ints(5), 8, ints(5, 0, 0, 0, 0, 0, 0, 0, 0, 0, 0))
	expands(t, fieldOf(constant(1, -7)), intervals(spanOf(-1, 3)), 8, append(intervals(spanOf(-1, 3)), ints(-7, 0, 0, 0, 0, 0, 0, 0, 0, 0)...))
	expands(t, make([][]api.Mono, 4), ints(5, 6, 7, 8), 8, ints(5, 0, 0), ints(6, 0, 0), ints(7, 0, 0), ints(8, 0, 0))
	// Powers.
	expands(t, fieldOf(list(mono(1, 2))), ints(2), 8, ints(2, 4, 8, 16, 32, 64, 128, 256, 512, 1024, 2048))
	expands(t, fieldOf(list(mono(1, 2))), ints(-1), 8, ints(-1, 1, -1, 1, -1, 1, -1, 1, -1, 1, -1))
	expands(t, fieldOf(list(mono(-1, 3))), ints(1), 8, intervals(spanOf(1, 1), spanOf(-1, -1), point(of(3, -1)), point(of(-5, -1)), point(of(35, -3))))
	expands(t, fieldOf(list(mono(1, 8))), ints(1), 8, ints(1, 1, 4, 20))
	// A square has no dependency: each factor may have a number of its own.
	expands(t, fieldOf(list(mono(1, 2))), intervals(spanOf(-1, 2)), 8, intervals(spanOf(-1, 2), spanOf(-2, 4), spanOf(-4, 8), spanOf(-8, 16)))
	// Each variable has its own polynomial, and takes the others' coefficients.
	expands(t, fieldOf(list(mono(2, 0, 1)), list(mono(1, 0, 0))), ints(0, 0), 8, ints(0, 0, 1, 0), ints(0, 1, 0, 0))
	expands(t, fieldOf(list(mono(1, 0, 0)), list(mono(2, 1, 0))), ints(0, 0), 8, ints(0, 1, 0, 0), ints(0, 0, 1, 0))
	expands(t, fieldOf(list(mono(4, 0, 1, 0, 0)), list(mono(3, 0, 0, 1, 0)), list(mono(2, 0, 0, 0, 1)), constant(4, 1)), ints(0, 0, 0, 0), 8, ints(0, 0, 0, 0, 1, 0), ints(0, 0, 0, 1, 0, 0), ints(0, 0, 1, 0, 0, 0), ints(0, 1, 0, 0, 0, 0))
	expands(t, fieldOf(constant(4, 1), list(mono(2, 1, 0, 0, 0)), list(mono(3, 0, 1, 0, 0)), list(mono(4, 0, 0, 1, 0))), ints(0, 0, 0, 0), 8, ints(0, 1, 0, 0, 0, 0), ints(0, 0, 1, 0, 0, 0), ints(0, 0, 0, 1, 0, 0), ints(0, 0, 0, 0, 1, 0))
	expands(t, fieldOf(list(mono(1, 0, 1)), list(mono(-1, 1, 0))), ints(24, 0), 8, ints(24, 0, -12, 0, 1), ints(0, -24, 0, 4, 0))
	expands(t, fieldOf(list(mono(1, 1, 1)), list(mono(-1, 1, 1))), ints(1, 1), 8, ints(1, 1, 0), ints(1, -1, 0))
	expands(t, fieldOf(list(mono(1, 1, 1)), list(mono(1, 0, 2), mono(3, 0, 1))), ints(2, 1), 8, ints(2, 2, 5), ints(1, 4, 10))
	expands(t, fieldOf(list(mono(1, 1, 0, 1)), list(mono(1, 1, 1, 1), mono(1, 0, 0, 0)), constant(3, 2)), ints(1, 2, 3), 8, ints(1, 3), ints(2, 7), ints(3, 2))
	expands(t, fieldOf(list(mono(1, 0, 1)), list(mono(1, 1, 0))), intervals(spanOf(-1, 1), spanOf(2, 6)), 8, intervals(spanOf(-1, 1), spanOf(2, 6), from(of(-1, -1), of(1, -1))), intervals(spanOf(2, 6), spanOf(-1, 1), spanOf(1, 3)))
	// What is rounded: coefficients, but not where a series starts.
	expands(t, grows, ints(257), 8, intervals(spanOf(257, 257), spanOf(256, 258), spanOf(128, 129), from(of(85, -1), of(43, 0))))
	expands(t, grows, ints(-257), 8, intervals(spanOf(-257, -257), spanOf(-258, -256), spanOf(-129, -128), from(of(-43, 0), of(-85, -1))))
	expands(t, fieldOf(constant(1, 257)), intervals(spanOf(-257, 513)), 8, intervals(spanOf(-257, 513), spanOf(256, 258), spanOf(0, 0)))
	expands(t, fieldOf(list(mono(1, 0, 1)), constant(2, 511)), ints(0, 0), 8, intervals(spanOf(0, 0), spanOf(0, 0), spanOf(255, 256)), intervals(spanOf(0, 0), spanOf(510, 512), spanOf(0, 0)))
	expands(t, grows, intervals(point(full(maxBits, 0))), 8, intervals(point(full(maxBits, 0)), from(of(255, maxBits-8), of(1, maxBits)), from(of(255, maxBits-9), of(1, maxBits-1))))
	// The limits of numbers.
	expands(t, fieldOf(nil), intervals(point(full(maxBits, maxExp))), 8, append(intervals(point(full(maxBits, maxExp))), ints(0, 0)...))
	expands(t, grows, intervals(from(of(-1, maxExp), of(1, maxExp))), 8, intervals(from(of(-1, maxExp), of(1, maxExp)), from(of(-1, maxExp), of(1, maxExp)), from(of(-1, maxExp-1), of(1, maxExp-1))))
}

// TestDivision: the divisor of coefficient k + 1 is k + 1, and each quotient is
// rounded by itself.
func TestDivision(t *testing.T) {
	// x1' = c x2^k, where x2 is the time, so that coefficient k + 1 is c / (k + 1).
	quotients := func(c int64) []api.Iv {
		var l []api.Iv
		for k := range api.MaxDeg + 1 {
			f := fieldOf(list(mono(c, 0, k)), constant(2, 1))
			got, err := Series(f, ints(9, 0), k+1, 8)
			if err != api.OK || len(got) != 2 || len(got[0]) != k+2 {
				t.Fatalf("Series(%s) = %s, %d", fieldText(f), texts(got), err)
			}
			if want := slices.Concat(ints(9), make([]api.Iv, k)); !equalBox(got[0][:k+1], want) {
				t.Errorf("Series(%s) = %s", fieldText(f), texts(got))
			}
			l = append(l, got[0][k+1])
		}
		return l
	}
	if got, want := quotients(2520), intervals(from(of(157, 4), of(79, 5)), from(of(157, 3), of(79, 4)), from(of(209, 2), of(211, 2)), from(of(157, 2), of(79, 3)), from(of(251, 1), of(253, 1)), from(of(209, 1), of(211, 1)), from(of(179, 1), of(181, 1)), from(of(157, 1), of(79, 2)), from(of(139, 1), of(141, 1))); !equalBox(got, want) {
		t.Errorf("quotients of 2520: %s, not %s", text(got), text(want))
	}
	seventh, ninth, fifth := from(of(73, -9), of(147, -10)), from(of(227, -11), of(57, -9)), from(of(51, -8), of(205, -10))
	if got, want := quotients(1), intervals(spanOf(1, 1), half(), third(), point(of(1, -2)), fifth, from(of(85, -9), of(171, -10)), seventh, point(of(1, -3)), ninth); !equalBox(got, want) {
		t.Errorf("quotients of 1: %s, not %s", text(got), text(want))
	}
	for k, got := range quotients(-1) {
		if want := quotients(1)[k]; !equalIv(got, from(minus(want.Hi), minus(want.Lo))) {
			t.Errorf("-1 / %d = %s", k+1, ivText(got))
		}
	}
}

// TestSeriesPlaces: a variable takes the coefficients of those that its
// polynomial has, at each index, and each coefficient up to k.
func TestSeriesPlaces(t *testing.T) {
	for n := 1; n <= api.MaxDim; n++ {
		for i := range n {
			for j := range n {
				// Variable j grows, and i has j's coefficients divided.
				f := with(make([][]api.Mono, n), j, list(mono(1, single(n, j, 2)...)))
				x := with(same(n, spanOf(-1000, 1000)), j, spanOf(2, 2))
				own := ints(2, 4, 8, 16)
				if i != j {
					f[i] = list(mono(3, single(n, j, 1)...))
					x[i] = spanOf(-6, 6)
				}
				got, err := Series(f, x, 3, 8)
				if err != api.OK || len(got) != n {
					t.Fatalf("Series(%s, %s) = %s, %d", fieldText(f), text(x), texts(got), err)
				}
				for l := range n {
					want := append(intervals(x[l]), ints(0, 0, 0)...)
					switch l {
					case j:
						want = own
					case i:
						want = append(intervals(spanOf(-6, 6)), ints(6, 6, 8)...)
					}
					if !equalBox(got[l], want) {
						t.Errorf("variable %d of Series(%s, %s): %s, not %s", l, fieldText(f), text(x), text(got[l]), text(want))
					}
				}
			}
		}
	}
}

func TestSeriesNoField(t *testing.T) {
	for rule, f := range noFields() {
		for _, a := range []api.Iv{{}, spanOf(1, 2), point(of(1, maxExp))} {
			for _, order := range []int{0, 1, api.MaxOrder} {
				seriesFails(t, f, same(len(f), a), order, 8, api.ErrForm, rule)
			}
			for n := range api.MaxDim + 2 {
				seriesFails(t, f, same(n, a), 0, 8, api.ErrForm, rule)
			}
		}
	}
}

// TestSeriesLengths: the box has as many intervals as the field has polynomials.
func TestSeriesLengths(t *testing.T) {
	for n := range 3 * api.MaxDim {
		for m := range 3 * api.MaxDim {
			for name, f := range map[string][][]api.Mono{"empty": make([][]api.Mono, n), "constant": same(n, constant(n, -1))} {
				for order := range 3 {
					want, wantErr := [][]api.Iv(nil), api.ErrForm
					if n == m && n >= 1 && n <= api.MaxDim {
						slope := map[string]int64{"empty": 0, "constant": -1}[name]
						want, wantErr = same(n, ints(3, slope, 0)[:order+1]), api.OK
					}
					checkSeries(t, f, ints(3, 3, 3, 3, 3, 3, 3, 3, 3, 3, 3, 3)[:m], order, 8, want, wantErr)
				}
			}
			if m > 0 && m <= api.MaxDim && m != n {
				seriesFails(t, linear(m), same(n, spanOf(1, 1)), 1, 8, api.ErrForm, "another length")
			}
		}
	}
	for n := 1; n <= api.MaxDim; n++ {
		for name, f := range fields(n) {
			seriesFails(t, f, nil, 0, 8, api.ErrForm, name)
			seriesFails(t, f, []api.Iv{}, 0, 8, api.ErrForm, name)
			seriesFails(t, f, same(n, spanOf(1, 1))[:n-1], 2, 8, api.ErrForm, name) // the capacity does not count
			seriesFails(t, f, make([]api.Iv, 1<<16), 2, 8, api.ErrForm, name)
		}
	}
}

// TestSeriesNoBox has what is not valid at each index, also of what no polynomial
// uses and where no coefficient would be computed.
func TestSeriesNoBox(t *testing.T) {
	for n := 1; n <= api.MaxDim; n++ {
		for name, f := range fields(n) {
			for rule, x := range noIvs() {
				for i := range n {
					for _, a := range []api.Iv{{}, point(of(1, maxExp))} {
						seriesFails(t, f, with(same(n, a), i, x), 0, 8, api.ErrForm, name+", "+rule)
						seriesFails(t, f, with(same(n, a), i, x), 1, 8, api.ErrForm, name+", "+rule)
					}
				}
				seriesFails(t, f, same(n, x), 0, 8, api.ErrForm, name+", all: "+rule)
				seriesFails(t, f, same(n+1, x), 0, 8, api.ErrForm, name+", longer: "+rule)
			}
		}
	}
}

// TestSeriesOrders has orders that are out of range, also where an operation
// would fail, and each one in range: it has the first coefficients of the greatest.
func TestSeriesOrders(t *testing.T) {
	for n := 1; n <= api.MaxDim; n++ {
		for name, f := range fields(n) {
			for _, a := range []api.Iv{{}, spanOf(1, 2), point(of(1, maxExp))} {
				for _, order := range noOrders() {
					seriesFails(t, f, same(n, a), order, 8, api.ErrForm, name)
				}
			}
			checkSeries(t, f, same(n, point(of(257, maxExp))), 0, 8, same(n, intervals(point(of(257, maxExp)))), api.OK)
		}
	}
	for n := 1; n <= api.MaxDim; n++ {
		for _, name := range []string{"empty", "constant", "linear", "squares", "long"} {
			f, x := fields(n)[name], ints(1, -2, 3, 0)[:n]
			most, err := seriesBy(way{}, f, x, api.MaxOrder, 53)
			if err != api.OK {
				t.Fatalf("%s: %d", name, err)
			}
			expands(t, f, x, 53, most...)
		}
	}
}

func TestSeriesPrec(t *testing.T) {
	for n := 1; n <= api.MaxDim; n++ {
		for _, name := range []string{"empty", "constant", "linear", "long"} {
			f := fields(n)[name]
			for _, a := range []api.Iv{{}, spanOf(-1, 3), point(of(1, maxExp))} {
				for _, order := range []int{0, 1, api.MaxOrder} {
					for _, prec := range noPrecs() {
						seriesFails(t, f, same(n, a), order, prec, api.ErrForm, name)
					}
				}
				for _, prec := range precs() {
					want, wantErr := wantSeries(f, same(n, a), 3, prec)
					checkSeries(t, f, same(n, a), 3, prec, want, wantErr)
				}
			}
		}
	}
	// Each coefficient has exactly so many bits, of a product and of a quotient.
	for prec := api.MinPrec; prec <= api.MaxPrec; prec++ {
		long := point(full(300, -300))
		rounded := from(full(prec, -int64(prec)), odd(1, 0))
		halved := from(full(prec, -int64(prec)-1), of(1, -1))
		checkSeries(t, fieldOf(list(mono(1, 1))), intervals(long), 2, prec, lists(intervals(long, rounded, halved)), api.OK)
		// 1/3 is .010101.. in binary.
		c, _ := whole(1).over(3).rounded(prec, false).number()
		d, _ := whole(1).over(3).rounded(prec, true).number()
		checkSeries(t, fieldOf(list(mono(1, 0, 2)), constant(2, 1)), ints(0, 0), 3, prec, lists(append(ints(0, 0, 0), from(c, d)), ints(0, 1, 0, 0)), api.OK)
	}
}

// ways are all ways that differ in one thing, by its name.
func ways() map[string]way {
	return map[string]way{
		"a coefficient and its quotient are rounded once": {once: true},
		"a coefficient is multiplied by 1 / (k + 1)":      {factor: true},
		"each monomial is divided":                        {apart: true},
		"coefficient 1 is the range of the field":         {ranged: true},
		"coefficient 0 is rounded":                        {rounded: true},
		"coefficient 0 is the middle":                     {middle: true},
		"a variable has the next one's polynomial":        {turned: true},
		"the other variables' series do not grow":         {alone: true},
	}
}

// TestSeriesOrder: in each of the other ways at least one result is another one.
func TestSeriesOrder(t *testing.T) {
	told := map[string]bool{}
	for _, x := range []struct {
		f    [][]api.Mono
		x    []api.Iv
		want [][]api.Iv
	}{
		{fieldOf(list(mono(1, 1))), ints(257), lists(intervals(spanOf(257, 257), spanOf(256, 258), spanOf(128, 129), from(of(85, -1), of(43, 0))))},
		{fieldOf(list(mono(1, 0, 2)), constant(2, 511)), ints(0, 0), lists(append(ints(0, 0, 0), from(of(169, 9), of(171, 9))), intervals(spanOf(0, 0), spanOf(510, 512), spanOf(0, 0), spanOf(0, 0)))},
		{fieldOf(list(mono(1, 2))), intervals(spanOf(-1, 2)), lists(intervals(spanOf(-1, 2), spanOf(-2, 4), spanOf(-4, 8)))},
		{fieldOf(list(mono(1, 2), mono(4, 1))), ints(3), lists(intervals(spanOf(3, 3), spanOf(21, 21), spanOf(105, 105), spanOf(492, 502)))},
		{fieldOf(list(mono(1, 2, 0), mono(1, 1, 1)), list(mono(7, 1, 0))), ints(1, 3), lists(intervals(spanOf(1, 1), spanOf(4, 4), point(of(27, -1)), from(of(167, -2), of(21, 1))), intervals(spanOf(3, 3), spanOf(7, 7), spanOf(14, 14), point(of(63, -1))))},
	} {
		order := len(x.want[0]) - 1
		checkSeries(t, x.f, x.x, order, 8, x.want, api.OK)
		for name, w := range ways() {
			got, err := seriesBy(w, x.f, x.x, order, 8)
			told[name] = told[name] || err != api.OK || !equalBoxes(got, x.want)
		}
	}
	for name := range ways() {
		if !told[name] {
			t.Errorf("no case tells: %s", name)
		}
	}
}
