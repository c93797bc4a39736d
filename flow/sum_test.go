package flow

import (
	"slices"
	"testing"

	"fathomline/api"
)

// P15.2

func TestSum(t *testing.T) {
	long := point(full(maxBits, maxExp))
	for _, x := range []struct {
		l    [][]api.Iv
		h    api.Iv
		want []api.Iv
	}{
		{lists(ints(1, 2, 3)), spanOf(2, 2), ints(17)}, {lists(ints(1, 2), ints(3), ints(0, 0, 1), ints(5, 0, 0, -1)), spanOf(2, 2), ints(5, 3, 4, -3)},
		{lists(ints(1, 2), ints(2, 1)), spanOf(3, 3), ints(7, 5)}, {lists(ints(2, 1), ints(1, 2)), spanOf(3, 3), ints(5, 7)},
		{lists(make([]api.Iv, 11), ints(0, 0, 0, 0, 0, 0, 0, 0, 0, 0, 1)), spanOf(2, 2), ints(0, 1024)},
		// h that contains 0, is negative, or is 0.
		{lists(ints(1, 2), ints(0, 0, 1)), spanOf(-1, 2), intervals(spanOf(-1, 5), spanOf(-2, 4))}, {lists(ints(1, 2), ints(0, 0, 1)), spanOf(0, 3), intervals(spanOf(1, 7), spanOf(0, 9))}, {lists(ints(1, 2), ints(0, 0, 1)), spanOf(-3, 0), intervals(spanOf(-5, 1), spanOf(0, 9))},
		{lists(ints(1, 2), ints(0, 0, 1), ints(1, 1, 1, 1)), spanOf(-3, -2), intervals(spanOf(-5, -3), spanOf(4, 9), spanOf(-20, -5))}, {lists(ints(1, 2, 3), intervals(spanOf(-1, 4), spanOf(5, 6))), spanOf(0, 0), intervals(spanOf(1, 1), spanOf(-1, 4))},
		// Intervals, by Horner's rule.
		{lists(ints(0, -1, 1), intervals(spanOf(0, 1), spanOf(-1, 2))), spanOf(0, 3), intervals(spanOf(-3, 6), spanOf(-3, 7))},
		// What is rounded to 8 bits; a single coefficient is not.
		{lists(ints(256, 1), ints(257), ints(0, 257), ints(257, 0)), spanOf(1, 1), intervals(spanOf(256, 258), spanOf(257, 257), spanOf(256, 258), spanOf(256, 258))}, {lists(ints(-256, -1), ints(1, 17)), spanOf(17, 17), intervals(spanOf(-274, -272), spanOf(288, 292))},
		// The limits of numbers.
		{lists(intervals(long), ints(1, 1)), spanOf(1, 1), intervals(long, spanOf(2, 2))}, {lists(ints(1, 1), intervals(long)), spanOf(1, 1), intervals(spanOf(2, 2), long)}, {lists(ints(0, 1), ints(0, -1)), point(of(1, maxExp)), intervals(point(of(1, maxExp)), point(of(-1, maxExp)))},
	} {
		checkSum(t, x.l, x.h, 8, x.want, api.OK)
		// Each series is summed by itself.
		for i, a := range x.l {
			checkSum(t, lists(a), x.h, 8, x.want[i:i+1], api.OK)
			checkSum(t, same(3, a), x.h, 8, same(3, x.want[i]), api.OK)
		}
	}
}

// TestSumCounts has no series, 1, MaxDim, one more, and others.
func TestSumCounts(t *testing.T) {
	for n := range 3 * api.MaxDim {
		for _, a := range [][]api.Iv{ints(1, 2), ints(5), make([]api.Iv, api.MaxOrder+1)} {
			if n < 1 || n > api.MaxDim {
				sumFails(t, same(n, a), spanOf(1, 1), 8, api.ErrForm, "another number of series")
				sumFails(t, same(15, a)[:n], spanOf(1, 1), 8, api.ErrForm, "another number of series")
				continue
			}
			want, _ := wantSum(same(1, a), spanOf(1, 1), 8)
			checkSum(t, same(n, a), spanOf(1, 1), 8, same(n, want[0]), api.OK)
			checkSum(t, same(15, a)[:n], spanOf(1, 1), 8, same(n, want[0]), api.OK)
		}
		over := intervals(spanOf(0, 0), point(of(1, maxExp)))
		wantErr := api.ErrOver
		if n < 1 || n > api.MaxDim {
			wantErr = api.ErrForm
		}
		sumFails(t, same(n, over), spanOf(2, 2), 8, wantErr, "over")
		sumFails(t, make([][]api.Iv, n), spanOf(2, 2), 8, api.ErrForm, "empty series")
	}
	sumFails(t, nil, spanOf(1, 1), 8, api.ErrForm, "nil")
	sumFails(t, [][]api.Iv{}, spanOf(1, 1), 8, api.ErrForm, "no series")
	sumFails(t, same(1<<16, ints(1)), spanOf(1, 1), 8, api.ErrForm, "many series")
}

// TestSumLengths has one series of any number of coefficients at each index,
// among others of other lengths.
func TestSumLengths(t *testing.T) {
	for n := 1; n <= api.MaxDim; n++ {
		for i := range n {
			for length := range 3 * api.MaxOrder {
				var l [][]api.Iv
				var want []api.Iv
				for j := range n {
					own := 1 + (length+3*j)%(api.MaxOrder+1)
					if j == i {
						own = length
					}
					l, want = append(l, same(40, spanOf(1, 1))[:own]), append(want, spanOf(int64(own), int64(own)))
				}
				if length < 1 || length > api.MaxOrder+1 {
					sumFails(t, l, spanOf(1, 1), 8, api.ErrForm, "another length")
					continue
				}
				checkSum(t, l, spanOf(1, 1), 8, want, api.OK)
			}
			sumFails(t, with(same(n, ints(1)), i, nil), spanOf(1, 1), 8, api.ErrForm, "a nil series")
			sumFails(t, with(same(n, ints(1)), i, make([]api.Iv, 1<<16)), spanOf(1, 1), 8, api.ErrForm, "a long series")
		}
	}
}

// TestSumInvalid has what is not valid at each index of each series, and as h.
func TestSumInvalid(t *testing.T) {
	for rule, x := range noIvs() {
		for n := 1; n <= api.MaxDim; n++ {
			for i := range n {
				for _, length := range []int{1, 2, api.MaxOrder + 1} {
					for _, c := range []api.Iv{{}, point(of(1, maxExp))} {
						l := same(n, same(length, c))
						for k := range length {
							sumFails(t, with(l, i, with(l[i], k, x)), spanOf(0, 2), 8, api.ErrForm, rule)
						}
						sumFails(t, l, x, 8, api.ErrForm, "h: "+rule)
					}
				}
			}
		}
	}
}

func TestSumPrec(t *testing.T) {
	for n := 1; n <= api.MaxDim; n++ {
		for _, a := range [][]api.Iv{make([]api.Iv, 3), ints(1), ints(1, -2, 300), intervals(point(of(1, maxExp)), point(of(1, maxExp)))} {
			for _, h := range []api.Iv{{}, spanOf(-1, 3), point(of(1, maxExp))} {
				for _, prec := range noPrecs() {
					sumFails(t, same(n, a), h, prec, api.ErrForm, "prec")
				}
				for _, prec := range precs() {
					want, wantErr := wantSum(same(n, a), h, prec)
					checkSum(t, same(n, a), h, prec, want, wantErr)
				}
			}
		}
	}
	// A result has exactly so many bits.
	for prec := api.MinPrec; prec <= api.MaxPrec; prec++ {
		rounded := from(full(prec, -int64(prec)), odd(1, 0))
		long := intervals(point(full(300, -300)))
		checkSum(t, lists(append(ints(0), long...), append(long, spanOf(0, 0)), long), spanOf(1, 1), prec, intervals(rounded, rounded, long[0]), api.OK)
	}
}

// TestSumErrors has at each index a series that fails, and what is not valid at
// another one.
func TestSumErrors(t *testing.T) {
	over := map[string][]api.Iv{
		"a product": intervals(spanOf(0, 0), point(of(1, maxExp))), "a sum": intervals(point(of(1, maxExp)), point(of(1, maxExp-1))), "one end": intervals(spanOf(0, 0), from(odd(0, 0), of(1, maxExp))),
		"a product near 0": intervals(spanOf(0, 0), spanOf(0, 0), point(of(257, -maxExp))), "both": same(3, point(of(-1, maxExp))),
	}
	h := map[string]api.Iv{"a product": spanOf(2, 2), "a sum": from(of(255, -7), of(255, -7)), "one end": spanOf(2, 2), "a product near 0": from(of(1, -8), of(1, -8)), "both": spanOf(1, 3)}
	flawed := map[string][]api.Iv{"empty": nil, "too long": make([]api.Iv, api.MaxOrder+2), "not valid": ints(1, 2), "not valid first": ints(1, 2)}
	flawed["not valid"][1] = spanOf(2, 1)
	flawed["not valid first"][0] = point(of(2, 0))
	for name, a := range over {
		for n := 1; n <= api.MaxDim; n++ {
			for i := range n {
				l := with(same(n, ints(1, 0)), i, a)
				if _, err := wantSum(l, h[name], 8); err != api.ErrOver {
					t.Fatalf("%s: the reference does not fail, but has %d", name, err)
				}
				sumFails(t, l, h[name], 8, api.ErrOver, name)
				for j := range n {
					sumFails(t, with(l, j, a), h[name], 8, api.ErrOver, name+", twice")
					for rule, b := range flawed {
						sumFails(t, with(l, j, b), h[name], 8, api.ErrForm, name+", "+rule)
						sumFails(t, with(same(n, a), j, b), h[name], 8, api.ErrForm, "all but one: "+name+", "+rule)
					}
				}
				sumFails(t, l, spanOf(2, 1), 8, api.ErrForm, name+" and h")
				sumFails(t, l, h[name], api.MinPrec-1, api.ErrForm, name+" and prec")
				sumFails(t, l, h[name], api.MaxPrec+1, api.ErrForm, name+" and prec")
			}
			sumFails(t, slices.Concat(same(n, a), same(api.MaxDim, ints(1))), h[name], 8, api.ErrForm, name+", too many")
		}
	}
}

// TestSumOfSeries sums what Series returns.
func TestSumOfSeries(t *testing.T) {
	// x1' = x1 from 120, up to order 5, and x2' = 1 from 7.
	l, err := Series(fieldOf(list(mono(1, 1, 0)), constant(2, 1)), ints(120, 7), 5, 16)
	if err != api.OK {
		t.Fatalf("Series: %d", err)
	}
	checkSum(t, l, spanOf(1, 1), 16, ints(326, 8), api.OK)
	checkSum(t, l, spanOf(0, 0), 16, ints(120, 7), api.OK)
	checkSum(t, l, spanOf(2, 2), 16, ints(872, 9), api.OK)
	checkSum(t, l, spanOf(-1, -1), 16, ints(44, 6), api.OK)
}
