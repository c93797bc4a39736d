package flow

import (
	"fmt"
	"testing"

	"fathomline/api"
)

// P15.1: ErrOver.

// firstOver expects coefficient k of variable i, from 1 on, to be the first one
// with an operation that fails, which is of the given kind.
func firstOver(t *testing.T, f [][]api.Mono, x []api.Iv, k, i int, kind string) {
	t.Helper()
	what := fmt.Sprintf("%s in coefficient %d of variable %d", kind, k, i)
	for order := range api.MaxOrder + 1 {
		want, wantErr, first := seriesOf(way{}, f, x, order, 8)
		if order >= k && (wantErr != api.ErrOver || first != what) || order < k && wantErr != api.OK {
			t.Fatalf("the reference fails at %s, %s for order %d in %q, %d, not in %q", fieldText(f), text(x), order, first, wantErr, what)
		}
		checkSeries(t, f, x, order, 8, want, wantErr)
	}
}

// steady is the field of n polynomials that are constants, and ones but for
// variable i.
func steady(n, i int, p []api.Mono) [][]api.Mono {
	return with(same(n, constant(n, 1)), i, p)
}

// TestSeriesOverOf has a product that fails at each coefficient of each variable.
func TestSeriesOverOf(t *testing.T) {
	for n := 1; n <= api.MaxDim; n++ {
		for i := range n {
			for k := 1; k <= api.MaxOrder; k++ {
				// Coefficient k is about 2^(e k + 100) / k!, and beyond MaxExp.
				e := int64(maxExp-100)/int64(k) + 40
				for _, sign := range []int64{1, -1} {
					p := list(term(of(sign, e), single(n, i, 1)...))
					firstOver(t, steady(n, i, p), with(same(n, spanOf(0, 0)), i, point(of(1, 100))), k, i, "product")
					// Or nearer to 0 than any number, or at one end alone.
					p = list(term(of(sign, -e), single(n, i, 1)...))
					firstOver(t, steady(n, i, p), with(same(n, spanOf(0, 0)), i, point(of(1, -100))), k, i, "product")
					p = list(term(of(sign, e), single(n, i, 1)...))
					firstOver(t, steady(n, i, p), with(same(n, spanOf(0, 0)), i, from(odd(0, 0), of(1, 100))), k, i, "product")
					firstOver(t, steady(n, i, p), with(same(n, spanOf(0, 0)), i, from(of(-1, 100), odd(0, 0))), k, i, "product")
				}
			}
		}
	}
}

// TestSeriesOverSum has a sum of two monomials that fails, though each of them
// has a number.
func TestSeriesOverSum(t *testing.T) {
	edge := full(8, maxExp)
	for _, c := range []api.Num{edge, minus(edge)} {
		firstOver(t, fieldOf(list(term(c, 1), term(c, 0))), ints(1), 1, 0, "sum")
		for n := 2; n <= api.MaxDim; n++ {
			for i := range n {
				for k := 1; k <= api.MaxDeg; k++ {
					// Variable j is the time, so that both monomials have no coefficient
					// but the one for k - 1.
					j := (i + 1) % n
					e := single(n, j, k-1)
					f := steady(n, i, list(term(c, with(e, i, 1)...), term(c, e...)))
					firstOver(t, f, with(same(n, spanOf(0, 0)), i, spanOf(1, 1)), k, i, "sum")
					firstOver(t, f, with(same(n, spanOf(0, 0)), i, spanOf(-1, 1)), k, i, "sum")
				}
			}
		}
	}
}

// TestSeriesOverDivision has a quotient that fails at each coefficient of each
// variable. One of a division by 1 cannot.
func TestSeriesOverDivision(t *testing.T) {
	for n := 1; n <= api.MaxDim; n++ {
		for i := range n {
			for k := 2; k <= api.MaxOrder; k++ {
				f := steady(n, i, list(mono(1, single(n, i, 1)...)))
				firstOver(t, f, with(same(n, spanOf(0, 0)), i, lowest(t, k, func(x api.Num) api.Iv { return point(x) })), k, i, "quotient")
				firstOver(t, f, with(same(n, spanOf(0, 0)), i, lowest(t, k, func(x api.Num) api.Iv { return from(x, odd(1, 0)) })), k, i, "quotient")
				firstOver(t, f, with(same(n, spanOf(0, 0)), i, lowest(t, k, func(x api.Num) api.Iv { return from(odd(-1, 0), minus(x)) })), k, i, "quotient")
			}
		}
	}
}

// lowest is where x' = x starts, such that coefficient k is the first one whose
// quotient has no number.
func lowest(t *testing.T, k int, start func(x api.Num) api.Iv) api.Iv {
	t.Helper()
	want := fmt.Sprintf("quotient in coefficient %d of variable 0", k)
	for m := int64(1); m < 256; m += 2 {
		for exp := int64(0); exp < 40; exp++ {
			x := start(of(m, exp-maxExp))
			if _, _, what := seriesOf(way{}, fieldOf(list(mono(1, 1))), intervals(x), k, 8); what == want {
				return x
			}
		}
	}
	t.Fatalf("no start for %d", k)
	return api.Iv{}
}

// TestSeriesOverUnneeded has operations that fail where the result would not
// need them.
func TestSeriesOverUnneeded(t *testing.T) {
	far, top := point(of(1, 40000)), point(full(8, maxExp))
	zero := spanOf(0, 0)
	for _, x := range []struct {
		f    [][]api.Mono
		x    []api.Iv
		k, i int
		kind string
	}{
		// A factor is 0, or what is left of a difference.
		{fieldOf(list(mono(1, 2, 1)), nil), intervals(far, zero), 1, 0, "product"},
		{fieldOf(nil, list(mono(1, 2, 1))), intervals(far, zero), 1, 1, "product"},
		{fieldOf(list(mono(1, 2, 0), mono(-1, 1, 1)), nil), intervals(far, far), 1, 0, "product"},
		{fieldOf(list(mono(1, 1, 0, 0), mono(1, 0, 1, 0), mono(-1, 0, 0, 1)), nil, nil), intervals(top, top, top), 1, 0, "sum"},
		{fieldOf(nil, nil, list(mono(1, 1, 0, 0), mono(1, 0, 1, 0), mono(-1, 0, 0, 1))), intervals(top, top, top), 1, 2, "sum"},
		// Such a factor is only the coefficient of a power.
		{fieldOf(list(mono(1, 0, 2, 1)), list(mono(1, 0, 0, 0)), nil), intervals(zero, far, zero), 1, 0, "product"},
		{fieldOf(list(mono(1, 0, 2, 1)), list(term(of(1, 40000), 0, 0, 0)), nil), intervals(zero, zero, zero), 3, 0, "product"},
		// No other coefficient is computed out of it: the last variable's, one of a
		// variable that no polynomial has, and the last one.
		{fieldOf(list(mono(1, 1, 0)), list(mono(1, 0, 2))), intervals(spanOf(1, 1), far), 1, 1, "product"},
		{fieldOf(list(mono(1, 2, 0)), list(mono(1, 0, 1))), intervals(far, spanOf(1, 1)), 1, 0, "product"},
		{fieldOf(list(mono(1, 2, 0, 0, 0)), nil, nil, nil), intervals(far, zero, zero, zero), 1, 0, "product"},
		{fieldOf(nil, nil, nil, list(mono(1, 0, 0, 0, 2))), intervals(zero, zero, zero, far), 1, 3, "product"},
		{fieldOf(constant(2, 1), list(term(of(1, -maxExp), 1, 0))), intervals(zero, zero), 2, 1, "quotient"},
		{fieldOf(list(term(of(1, -maxExp), 0, 1)), constant(2, 1)), intervals(zero, zero), 2, 0, "quotient"},
		{fieldOf(constant(2, 1), list(term(of(1, -maxExp), 8, 0))), intervals(zero, zero), 9, 1, "quotient"},
		// A constant that no number of so few bits has.
		{fieldOf(list(term(of(257, maxExp), 0))), intervals(zero), 1, 0, "sum"},
		{fieldOf(constant(2, 1), list(term(of(257, maxExp), 0, 0))), intervals(zero, zero), 1, 1, "sum"},
	} {
		firstOver(t, x.f, x.x, x.k, x.i, x.kind)
	}
}

// TestSeriesOverBoth has two variables that fail.
func TestSeriesOverBoth(t *testing.T) {
	far := point(of(1, 40000))
	for n := 2; n <= api.MaxDim; n++ {
		for i := range n {
			for j := range i {
				f := with(steady(n, i, list(mono(1, single(n, i, 2)...))), j, list(mono(1, single(n, j, 2)...)))
				firstOver(t, f, same(n, far), 1, j, "product")
				// The later one at an earlier coefficient.
				f = with(steady(n, i, list(mono(1, single(n, i, 2)...))), j, list(term(of(1, 20000), single(n, j, 1)...)))
				firstOver(t, f, same(n, far), 1, i, "product")
			}
		}
	}
}
