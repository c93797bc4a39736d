package series

import (
	"fmt"
	"math"
	"slices"
	"testing"

	"fathomline/api"
)

// P14.2

// noPolys are lists that are no polynomials of n variables, by the reason.
func noPolys(n int) map[string][]api.Mono {
	high, low := slices.Repeat([]int{1}, n), make([]int, n)
	high[0] = 2
	l := map[string][]api.Mono{
		"C 0":                        list(mono(0, high...)),
		"degree above MaxDeg":        list(mono(1, with(low, n-1, api.MaxDeg+1)...)),
		"exponent below 0":           list(mono(1, with(low, n-1, -1)...)),
		"greatest exponent":          list(mono(1, with(low, 0, math.MaxInt)...)),
		"ascending":                  list(mono(1, low...), mono(1, high...)),
		"twice the same":             list(mono(1, low...), mono(2, low...)),
		"no exponents":               list(mono(1)),
		"of one variable less":       list(mono(1, high[:n-1]...)),
		"of one variable more":       list(mono(1, append(slices.Clone(low), 1)...)),
		"of one more, which is 0":    list(mono(1, append(slices.Clone(high), 0)...)),
		"of MaxDim + 1":              list(mono(1, make([]int, api.MaxDim+1)...)),
		"the last of one more":       list(mono(1, high...), mono(1, append(slices.Clone(low), 0)...)),
		"more than MaxTerms of them": slices.Repeat(list(mono(1, low...)), api.MaxTerms+1),
	}
	if len(exps(n, api.MaxDeg)) > api.MaxTerms {
		l["more than MaxTerms, in order"] = some(n, api.MaxTerms+1)
	}
	for rule, x := range invalid() {
		l["C: "+rule] = list(mono(1, high...), term(x, low...))
	}
	return l
}

// polys are polynomials of n variables, by what they consist of.
func polys(n int) map[string][]api.Mono {
	l := map[string][]api.Mono{
		"no terms":     nil,
		"a constant":   list(mono(-3, make([]int, n)...)),
		"all terms":    some(n, min(api.MaxTerms, len(exps(n, api.MaxDeg)))),
		"a full one":   list(mono(5, with(slices.Repeat([]int{2}, n), 0, 2)...)),
		"a long C":     list(term(full(maxBits, -maxBits), single(n, 0, 1)...)),
		"the last one": list(mono(7, single(n, n-1, 8)...), mono(-2, single(n, n-1, 1)...)),
	}
	for i := range n {
		for k := 1; k <= 3; k++ {
			l[fmt.Sprintf("x%d^%d", i+1, k)] = list(mono(1, single(n, i, k)...))
		}
	}
	return l
}

// many is n times the series.
func many(n int, x []api.Iv) [][]api.Iv { return slices.Repeat(seriesOf(x), n) }

// longest is the series of as many coefficients as there can be, and two more.
const longest = api.MaxOrder + 3

func TestOf(t *testing.T) {
	x, y := ints(1, 2, 1, 0, 0), ints(2, -1, 0, 0, 3)
	up := ints(1, 1, 0, 0, 0, 0, 0, 0, 0, 0, 0)
	for _, c := range []struct {
		p    []api.Mono
		xs   [][]api.Iv
		want []api.Iv
	}{
		// Without terms, and without variables.
		{nil, seriesOf(x), ints(0, 0, 0, 0)}, {nil, many(4, x), ints(0, 0, 0, 0)}, {list(mono(5, 0)), seriesOf(x), ints(5, 0, 0, 0)}, {list(mono(-5, 0, 0, 0, 0)), many(4, x), ints(-5, 0, 0, 0)},
		// Exponents 1 and greater, of one variable.
		{list(mono(1, 1)), seriesOf(y), ints(2, -1, 0, 0, 3)}, {list(mono(-3, 1)), seriesOf(y), ints(-6, 3, 0, 0, -9)}, {list(mono(1, 2)), seriesOf(y), ints(4, -4, 1, 0, 12)}, {list(mono(1, 3)), seriesOf(y), ints(8, -12, 6, -1, 36)},
		{list(mono(1, 8)), seriesOf(up), ints(1, 8, 28, 56, 70, 56, 28, 8, 1, 0, 0)}, {list(mono(2, 5), mono(1, 0)), seriesOf(up), ints(3, 10, 20, 20, 10, 2, 0)}, {list(mono(1, 2), mono(-2, 1), mono(1, 0)), seriesOf(up), ints(0, 0, 1, 0)},
		{list(mono(1, 4)), seriesOf(ints(0, 0, 1, 0, 0, 0, 0, 0, 0, 0, 0)), ints(0, 0, 0, 0, 0, 0, 0, 0, 1, 0, 0)}, {list(mono(3, 7), mono(2, 0)), seriesOf(make([]api.Iv, 11)), ints(2, 0, 0, 0, 0, 0, 0, 0, 0, 0, 0)},
		// Of several variables: each has its series.
		{list(mono(1, 1, 0)), seriesOf(x, y), x}, {list(mono(1, 0, 1)), seriesOf(x, y), y}, {list(mono(1, 1, 1)), seriesOf(x, y), ints(2, 3, 0, -1, 3)}, {list(mono(1, 2, 1), mono(-3, 0, 0)), seriesOf(x, y), ints(-1, 7, 8, 2)},
		{list(mono(1, 0, 2, 0, 1)), seriesOf(ints(100, 99), ints(1, 1), ints(98, 97), ints(3, 5)), ints(3, 11)}, {list(mono(1, 1, 0, 0, 0), mono(1, 0, 1, 0, 0), mono(1, 0, 0, 1, 0), mono(1, 0, 0, 0, 1)), seriesOf(ints(1, 2), ints(4, 8), ints(16, 32), ints(64, 128)), ints(85, 170)},
		{list(mono(1, 2, 2, 2, 2)), seriesOf(ints(1, 1, 0), ints(1, -1, 0), ints(1, 0, 1), ints(1, 0, -1)), ints(1, 0, -2)},
		// Intervals. Each factor and each monomial may have a number of its own.
		{list(mono(2, 1), mono(1, 0)), seriesOf(intervals(spanOf(-1, 3), spanOf(1, 2))), intervals(spanOf(-1, 7), spanOf(2, 4))}, {list(mono(1, 2)), seriesOf(intervals(spanOf(-1, 2), spanOf(1, 1))), intervals(spanOf(-2, 4), spanOf(-2, 4))},
		{list(mono(1, 3)), seriesOf(intervals(spanOf(-1, 2))), intervals(spanOf(-4, 8))}, {list(mono(-1, 2)), seriesOf(intervals(spanOf(-1, 2))), intervals(spanOf(-4, 2))}, {list(mono(1, 1, 0), mono(-1, 0, 1)), many(2, intervals(spanOf(1, 2), spanOf(-1, 0))), intervals(spanOf(-1, 1), spanOf(-1, 1))},
		// What is rounded to 8 bits: the constant itself, products and sums.
		{list(mono(257, 0)), seriesOf(ints(5, 6)), intervals(spanOf(256, 258), spanOf(0, 0))}, {list(mono(-257, 0)), seriesOf(ints(5, 6)), intervals(spanOf(-258, -256), spanOf(0, 0))}, {list(mono(1, 1)), seriesOf(ints(257, 1)), intervals(spanOf(256, 258), spanOf(1, 1))},
		{list(mono(1, 1), mono(1, 0)), seriesOf(ints(256, 1)), intervals(spanOf(256, 258), spanOf(1, 1))}, {list(mono(257, 1)), seriesOf(ints(1, 1)), intervals(spanOf(256, 258), spanOf(256, 258))}, {list(mono(1, 2)), seriesOf(ints(17, 17)), intervals(spanOf(288, 290), spanOf(576, 580))},
		{list(term(full(maxBits, 0), 1)), seriesOf(intervals(spanOf(-1, 1), spanOf(0, 0))), intervals(from(of(-1, maxBits), of(1, maxBits)), spanOf(0, 0))},
	} {
		for k, want := range c.want {
			checkOf(t, c.p, c.xs, k, 8, want, api.OK)
			// What is behind coefficient k does not count.
			for i, x := range c.xs {
				checkOf(t, c.p, with(c.xs, i, x[:k+1]), k, 8, want, api.OK)
				checkOf(t, c.p, with(c.xs, i, append(x[:k+1:k+1], spanOf(-99, 99))), k, 8, want, api.OK)
			}
		}
	}
}

// TestOfPlaces: a monomial takes coefficients of its variables alone.
func TestOfPlaces(t *testing.T) {
	for n := 1; n <= api.MaxDim; n++ {
		for i := range n {
			xs := many(n, slices.Repeat(intervals(spanOf(-1000, 1000)), longest))
			xs[i] = primes()
			for k := range api.MaxOrder + 1 {
				checkOf(t, list(mono(1, single(n, i, 1)...)), xs, k, 8, primes()[k], api.OK)
				for j := range n {
					if j == i {
						continue
					}
					xs := with(xs, j, only(longest, 1, spanOf(1, 1)))
					want := api.Iv{}
					if k > 0 {
						want = primes()[k-1]
					}
					p := list(mono(1, with(single(n, i, 1), j, 1)...))
					checkOf(t, p, xs, k, 8, want, api.OK)
				}
			}
		}
	}
}

// ofWays are all ways that differ in one thing, by its name.
func ofWays() map[string]way {
	return map[string]way{
		"the variable's series is the first factor":    {swapped: true},
		"the variables are in descending order":        {turned: true},
		"C is multiplied last":                         {cLast: true},
		"C is rounded first":                           {pointC: true},
		"each power is a product of its own":           {apart: true},
		"the first coefficient of a power is iv.Pow's": {squares: true},
		"the monomials are in reverse":                 {backwards: true},
		"the first monomial is the first sum":          {unstarted: true},
		"products and sums are rounded once":           {once: true},
		"of the last product one coefficient counts":   {lastOnly: true},
	}
}

// TestOfOrder: in each of the other ways at least one result is another one.
func TestOfOrder(t *testing.T) {
	seen := told{}
	over := point(of(1, 40000))
	for _, x := range []struct {
		p       []api.Mono
		xs      [][]api.Iv
		want    api.Iv
		wantErr api.Errno
	}{
		{list(mono(156, 3), mono(94, 2)), seriesOf(intervals(spanOf(10, 12), spanOf(3, 5), spanOf(2, 5))), from(of(135, 10), of(121, 12)), api.OK},
		{list(mono(91, 3)), seriesOf(intervals(spanOf(32, 33), spanOf(13, 13), spanOf(4, 11))), from(of(157, 14), of(149, 15)), api.OK},
		{list(mono(71, 3, 0), mono(-90, 2, 1)), seriesOf(intervals(spanOf(15, 16), spanOf(-5, 2), spanOf(15, 16)), intervals(spanOf(25, 26), spanOf(20, 27), spanOf(33, 39))), from(of(-201, 13), of(-35, 13)), api.OK},
		{list(mono(189, 3), mono(-13, 2)), seriesOf(intervals(spanOf(11, 13))), from(of(15, 14), of(51, 13)), api.OK},
		{list(mono(-11, 3), mono(487, 2)), seriesOf(intervals(spanOf(11, 13))), from(of(67, 9), of(133, 9)), api.OK},
		{list(mono(301, 3, 0), mono(86, 1, 1), mono(324, 0, 2)), seriesOf(intervals(spanOf(32, 38)), intervals(spanOf(20, 26))), from(of(151, 16), of(65, 18)), api.OK},
		{list(mono(367, 0)), seriesOf(ints(1)), from(of(183, 1), of(23, 4)), api.OK},
		{list(mono(1, 2)), seriesOf(intervals(over, point(of(1, -40000)))), api.Iv{}, api.ErrOver},
	} {
		k := len(x.xs[0]) - 1
		checkOf(t, x.p, x.xs, k, 8, x.want, x.wantErr)
		for name, w := range ofWays() {
			got, err := ofBy(w, x.p, x.xs, k, 8)
			seen.tell(name, got, err, x.want, x.wantErr)
		}
	}
	seen.expect(t, ofWays())
}

func TestOfOrders(t *testing.T) {
	for n := range api.MaxDim + 2 {
		for _, length := range []int{0, 1, api.MaxOrder, api.MaxOrder + 1, api.MaxOrder + 2, 40, 5000} {
			for _, c := range []api.Iv{{}, spanOf(1, 1), point(of(1, maxExp))} {
				xs := many(n, slices.Repeat(intervals(c), length))
				for _, k := range noOrders() {
					for _, p := range [][]api.Mono{nil, list(mono(3, make([]int, n)...)), list(mono(1, slices.Repeat([]int{2}, n)...))} {
						checkOf(t, p, xs, k, 8, api.Iv{}, api.ErrForm)
					}
				}
			}
		}
	}
	for k := range api.MaxOrder + 1 {
		checkOf(t, list(mono(1, 2)), seriesOf(slices.Repeat(ints(1), 5000)), k, 8, spanOf(int64(k+1), int64(k+1)), api.OK)
	}
}

// TestOfNoPoly has what no polynomial of n variables is, for series with which
// no operation would fail and for others.
func TestOfNoPoly(t *testing.T) {
	for n := 1; n <= api.MaxDim; n++ {
		for rule, p := range noPolys(n) {
			for _, c := range []api.Iv{{}, spanOf(1, 1), point(of(1, maxExp))} {
				for _, k := range []int{0, 1, api.MaxOrder} {
					if got, err := Of(p, many(n, slices.Repeat(intervals(c), longest)), k, 8); err != api.ErrForm || !equalIv(got, api.Iv{}) {
						t.Errorf("%d, %s: Of(%s) = %s, %d", n, rule, polyText(p), ivText(got), err)
					}
				}
			}
		}
	}
}

// TestOfVariables: a polynomial has as many variables as there are series. One
// without terms is one of any number from 1 to MaxDim.
func TestOfVariables(t *testing.T) {
	for n := range 3 * api.MaxDim {
		xs := many(n, ints(1, 1, 1))
		for k := range 3 {
			wantErr := api.OK
			if n < 1 || n > api.MaxDim {
				wantErr = api.ErrForm
			}
			checkOf(t, nil, xs, k, 8, api.Iv{}, wantErr)
			checkOf(t, []api.Mono{}, xs, k, 8, api.Iv{}, wantErr)
			for m := range 3 * api.MaxDim {
				want, wantErr := spanOf(3, 3), api.OK
				if k > 0 {
					want = api.Iv{}
				}
				if n != m || n < 1 || n > api.MaxDim {
					want, wantErr = api.Iv{}, api.ErrForm
				}
				checkOf(t, list(mono(3, make([]int, m)...)), xs, k, 8, want, wantErr)
				if m > 0 && wantErr == api.ErrForm {
					checkOf(t, list(mono(1, single(m, 0, 1)...)), xs, k, 8, api.Iv{}, api.ErrForm)
					checkOf(t, list(mono(1, single(m, m-1, 2)...)), xs, k, 8, api.Iv{}, api.ErrForm)
				}
			}
		}
	}
	for k := range api.MaxOrder + 1 {
		checkOf(t, nil, nil, k, 8, api.Iv{}, api.ErrForm)
		checkOf(t, nil, [][]api.Iv{}, k, 8, api.Iv{}, api.ErrForm)
		checkOf(t, list(mono(1)), nil, k, 8, api.Iv{}, api.ErrForm)
	}
}

// TestOfLengths has one series of fewer than k coefficients, of k, of k + 1 and
// of more, among others that are long enough, whether a monomial uses it or not.
func TestOfLengths(t *testing.T) {
	for n := 1; n <= api.MaxDim; n++ {
		for name, p := range map[string][]api.Mono{"no terms": nil, "constant": list(mono(1, make([]int, n)...)), "first": list(mono(1, single(n, 0, 1)...)), "last": list(mono(1, single(n, n-1, 2)...)), "all": list(mono(1, slices.Repeat([]int{1}, n)...))} {
			for k := range api.MaxOrder + 1 {
				for i := range n {
					for length := range longest {
						xs := many(n, slices.Repeat(ints(1), k+1+(n*k+i)%3))
						want, wantErr := ofBy(way{}, p, xs, k, 8)
						if length <= k {
							want, wantErr = api.Iv{}, api.ErrForm
						}
						xs[i] = slices.Repeat(ints(1), longest)[:length] // the capacity does not count
						if got, err := Of(p, xs, k, 8); err != wantErr || !equalIv(got, want) {
							t.Errorf("%s: Of %d of %d, %d coefficients at %d: %s, %d", name, k, n, length, i, ivText(got), err)
						}
					}
				}
			}
		}
	}
	// All of different lengths.
	p := list(mono(1, 1, 1, 1, 1))
	for k := range api.MaxOrder + 1 {
		for shift := range 4 {
			xs := make([][]api.Iv, 4)
			for i := range xs {
				xs[i] = slices.Repeat(ints(1), k+1+(i+shift)%4)
			}
			want, wantErr := ofBy(way{}, p, xs, k, 8)
			checkOf(t, p, xs, k, 8, want, wantErr)
			for i := range xs {
				checkOf(t, p, with(xs, i, xs[i][:k]), k, 8, api.Iv{}, api.ErrForm)
				checkOf(t, p, with(xs, i, nil), k, 8, api.Iv{}, api.ErrForm)
			}
		}
	}
}

// TestOfInvalid: what is not valid counts up to k, and not behind it, also in a
// series that no monomial uses.
func TestOfInvalid(t *testing.T) {
	for _, n := range []int{1, 2, api.MaxDim} {
		for name, p := range map[string][]api.Mono{"no terms": nil, "constant": list(mono(1, make([]int, n)...)), "first": list(mono(1, single(n, 0, 1)...)), "last": list(mono(1, single(n, n-1, 2)...))} {
			for _, c := range []api.Iv{spanOf(1, 1), point(of(1, maxExp))} {
				for _, k := range []int{0, 2, api.MaxOrder} {
					behind := many(n, slices.Repeat(intervals(c), k+3))
					want, wantErr := ofBy(way{}, p, behind, k, 8)
					for rule, x := range noIvs() {
						for i := range n {
							for j := range k + 3 {
								got, err := Of(p, with(behind, i, with(behind[i], j, x)), k, 8)
								if j <= k && (err != api.ErrForm || !equalIv(got, api.Iv{})) || j > k && (err != wantErr || !equalIv(got, want)) {
									t.Fatalf("%s: %s at %d of series %d: Of %d = %s, %d", name, rule, j, i, k, ivText(got), err)
								}
							}
						}
					}
				}
			}
		}
	}
}

func TestOfPrec(t *testing.T) {
	for n := 1; n <= api.MaxDim; n++ {
		for _, p := range polys(n) {
			for _, k := range []int{0, 1, api.MaxOrder} {
				for _, c := range []api.Iv{spanOf(-1, 3), spanOf(1, 1), point(of(1, maxExp))} {
					xs := many(n, slices.Repeat(intervals(c), k+1))
					for _, prec := range noPrecs() {
						checkOf(t, p, xs, k, prec, api.Iv{}, api.ErrForm)
					}
					for _, prec := range []int{api.MinPrec, 53, api.MaxPrec} {
						want, wantErr := ofBy(way{}, p, xs, k, prec)
						checkOf(t, p, xs, k, prec, want, wantErr)
					}
				}
			}
		}
	}
	// The result has exactly so many bits, of a constant, a product and a sum.
	third := full(300, -300)
	for prec := api.MinPrec; prec <= api.MaxPrec; prec++ {
		rounded := from(full(prec, -int64(prec)), odd(1, 0))
		checkOf(t, list(term(third, 0)), seriesOf(ints(1)), 0, prec, rounded, api.OK)
		checkOf(t, list(term(third, 1)), seriesOf(ints(1)), 0, prec, rounded, api.OK)
		checkOf(t, list(mono(1, 1)), seriesOf(intervals(spanOf(7, 7), point(third))), 1, prec, rounded, api.OK)
		checkOf(t, list(mono(1, 1), mono(1, 0)), seriesOf(intervals(point(of(1, 300)))), 0, prec, from(of(1, 300), wide(prec, 301-int64(prec))), api.OK)
	}
}

// TestOfOver has one operation that fails, though what follows would lead back
// to numbers.
func TestOfOver(t *testing.T) {
	top, low := of(1, maxExp), of(1, -maxExp)
	far, near := of(1, 40000), of(1, -40000)
	edge := full(8, maxExp)
	zero := ints(0, 0, 0)
	for _, x := range []struct {
		p  []api.Mono
		xs [][]api.Iv
		k  int
		ok bool
	}{
		// A product of C.
		{list(term(far, 1)), seriesOf(intervals(point(far))), 0, false}, {list(term(near, 1)), seriesOf(intervals(point(near))), 0, false}, {list(term(far, 1)), seriesOf(intervals(point(near))), 0, true}, {list(term(top, 1)), seriesOf(intervals(spanOf(-2, 1))), 0, false}, {list(term(top, 1)), seriesOf(intervals(spanOf(-1, 1))), 0, true},
		{list(term(far, 1, 1)), seriesOf(intervals(point(far)), intervals(point(near))), 0, false}, {list(term(far, 1, 1)), seriesOf(intervals(point(near)), intervals(point(far))), 0, true}, {list(term(far, 1, 1)), seriesOf(intervals(point(far)), zero), 0, false}, {list(term(far, 1, 1)), seriesOf(zero, intervals(point(far))), 0, true},
		// A product of a power, of which each factor is a product of its own.
		{list(mono(1, 2)), seriesOf(intervals(point(far))), 0, false}, {list(term(low, 2)), seriesOf(intervals(point(far))), 0, true}, {list(mono(1, 2, 2)), seriesOf(intervals(point(far)), intervals(point(near))), 0, false}, {list(mono(1, 8)), seriesOf(intervals(point(of(1, maxExp/8)))), 0, true}, {list(mono(1, 8)), seriesOf(intervals(point(of(1, maxExp/8+1)))), 0, false},
		{list(mono(1, 1, 1, 1)), seriesOf(intervals(point(far)), intervals(point(far)), intervals(point(near))), 0, false}, {list(mono(1, 1, 1, 1)), seriesOf(intervals(point(far)), intervals(point(near)), intervals(point(far))), 0, true},
		// A variable with the exponent 0 is of no matter.
		{list(mono(1, 1, 0), mono(1, 0, 0)), seriesOf(ints(1), intervals(point(full(maxBits, maxExp)))), 0, true}, {list(mono(1, 0, 1)), seriesOf(intervals(point(full(maxBits, maxExp))), ints(1)), 0, true},
		// A coefficient before k, which the one for k does not need.
		{list(mono(1, 1)), seriesOf(intervals(point(of(257, maxExp)), spanOf(1, 1))), 1, false}, {list(mono(1, 1)), seriesOf(intervals(spanOf(1, 1), point(of(257, maxExp)), spanOf(1, 1))), 2, false}, {list(mono(1, 2)), seriesOf(intervals(point(far), point(near))), 1, false}, {list(mono(1, 2)), seriesOf(intervals(point(near), point(far))), 1, false},
		{list(mono(1, 1, 1)), seriesOf(intervals(point(far), spanOf(0, 0)), intervals(point(far), spanOf(0, 0))), 1, false}, {list(term(top, 1)), seriesOf(ints(2, 1)), 1, false}, {list(term(top, 1)), seriesOf(ints(1, 2)), 0, true},
		// A sum within a coefficient, at k and before it.
		{list(mono(1, 2)), seriesOf(intervals(spanOf(1, 1), point(edge))), 1, false}, {list(mono(1, 2)), seriesOf(intervals(spanOf(1, 1), point(edge))), 0, true}, {list(mono(1, 2)), seriesOf(intervals(spanOf(1, 1), point(edge), spanOf(0, 0))), 2, false}, {list(mono(1, 1, 1)), seriesOf(intervals(spanOf(1, 1), point(edge)), intervals(spanOf(1, 1), point(minus(edge)))), 1, true},
		// A sum of monomials.
		{list(term(edge, 1), term(edge, 0)), seriesOf(ints(1)), 0, false}, {list(term(edge, 1), term(edge, 0)), seriesOf(intervals(spanOf(-1, 0))), 0, true}, {list(term(edge, 1), term(edge, 0)), seriesOf(ints(1, 1)), 1, true}, {list(term(edge, 2), term(edge, 1), term(minus(edge), 0)), seriesOf(ints(1)), 0, false},
		{list(term(edge, 2), term(minus(edge), 1), term(edge, 0)), seriesOf(ints(1)), 0, true}, {list(term(top, 1), mono(1, 0)), seriesOf(ints(1)), 0, true},
		// A constant, whose value to 8 bits is none or is one.
		{list(term(of(257, maxExp), 0)), seriesOf(ints(1)), 0, false}, {list(term(of(255, maxExp), 0)), seriesOf(ints(1)), 0, true}, {list(term(full(maxBits, maxExp-maxBits), 0)), seriesOf(ints(1)), 0, true}, {list(term(full(maxBits, maxExp-maxBits+1), 0)), seriesOf(ints(1)), 0, false}, {list(term(of(257, maxExp), 0)), seriesOf(ints(1, 1)), 1, true},
		// At each monomial.
		{list(mono(1, 2, 0), mono(1, 0, 1), mono(1, 0, 0)), seriesOf(intervals(point(far)), ints(1)), 0, false}, {list(mono(1, 1, 0), mono(1, 0, 2), mono(1, 0, 0)), seriesOf(ints(1), intervals(point(far))), 0, false}, {list(mono(1, 1, 0), mono(1, 0, 1), term(of(-257, maxExp), 0, 0)), many(2, ints(1)), 0, false},
	} {
		want, wantErr := ofBy(way{}, x.p, x.xs, x.k, 8)
		if (wantErr == api.OK) != x.ok || !x.ok && wantErr != api.ErrOver {
			t.Errorf("the operations of %s on %s for %d: %d", polyText(x.p), texts(x.xs), x.k, wantErr)
		}
		checkOf(t, x.p, x.xs, x.k, 8, want, wantErr)
	}
}

// TestOfOverAt has one coefficient whose product with 1 fails, or whose sum does,
// for each variable and each k.
func TestOfOverAt(t *testing.T) {
	for n := 1; n <= api.MaxDim; n++ {
		for i := range n {
			for j := range api.MaxOrder + 1 {
				for k := range api.MaxOrder + 1 {
					xs := many(n, make([]api.Iv, api.MaxOrder+1))
					want, wantErr := api.Iv{}, api.OK
					if j <= k {
						wantErr = api.ErrOver
					}
					xs[i] = only(api.MaxOrder+1, j, point(of(257, maxExp)))
					checkOf(t, list(mono(1, single(n, i, 1)...)), xs, k, 8, want, wantErr)
					// Neither the monomials before it nor those behind it help.
					p := list(mono(1, single(n, i, 2)...), mono(1, single(n, i, 1)...), mono(1, make([]int, n)...))
					if j <= k {
						checkOf(t, p, xs, k, 8, want, wantErr)
					}
					// The sum of a square's coefficient: 1 times x and x times 1.
					if j > 0 {
						xs[i] = with(only(api.MaxOrder+1, 0, spanOf(1, 1)), j, point(full(8, maxExp)))
						if k == 0 {
							want = spanOf(1, 1)
						}
						checkOf(t, list(mono(1, single(n, i, 2)...)), xs, k, 8, want, wantErr)
					}
				}
			}
		}
	}
}
