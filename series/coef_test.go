package series

import (
	"slices"
	"testing"

	"fathomline/api"
)

// P14.1

func TestCoef(t *testing.T) {
	for _, x := range []struct {
		a, b []api.Iv
		want []api.Iv
	}{
		{ints(1, 1), ints(1, 1), ints(1, 2)},
		{ints(3), ints(-5), ints(-15)}, {ints(0), ints(9), ints(0)}, {ints(0, 0, 0), ints(1, 2, 3), ints(0, 0, 0)},
		{ints(1, 2, 3), ints(4, 5, 6), ints(4, 13, 28)}, {ints(1, 2, 3, 0, 0), ints(4, 5, 6, 0, 0), ints(4, 13, 28, 27, 18)},
		{ints(1, 0, 0, 0), ints(7, -8, 9, 2), ints(7, -8, 9, 2)}, {ints(0, 1, 0, 0), ints(7, -8, 9, 2), ints(0, 7, -8, 9)}, {ints(0, 0, 0, 1), ints(7, -8, 9, 2), ints(0, 0, 0, 7)},
		{ints(1, -1, 1, -1), ints(1, 1, 0, 0), ints(1, 0, 0, 0)}, {ints(1, 1, 1, 1, 1, 1, 1, 1, 1, 1, 1), ints(1, -1, 0, 0, 0, 0, 0, 0, 0, 0, 0), ints(1, 0, 0, 0, 0, 0, 0, 0, 0, 0, 0)},
		{ints(1, 1, 1, 1, 1, 1, 1, 1, 1, 1, 1), ints(1, 1, 1, 1, 1, 1, 1, 1, 1, 1, 1), ints(1, 2, 3, 4, 5, 6, 7, 8, 9, 10, 11)},
		{ints(1, 2, 3, 4, 5, 6, 7, 8, 9, 10, 11), ints(1, 1, 1, 1, 1, 1, 1, 1, 1, 1, 1), ints(1, 3, 6, 10, 15, 21, 28, 36, 45, 55, 66)},
		{intervals(spanOf(-1, 2), spanOf(0, 1)), intervals(spanOf(1, 3), spanOf(-1, 1)), intervals(spanOf(-3, 6), spanOf(-2, 5))},
		{intervals(spanOf(-1, 2), spanOf(-3, 4)), intervals(spanOf(-5, 6), spanOf(-7, 8)), intervals(spanOf(-10, 12), spanOf(-34, 40))},
		// A square has no dependency: each factor may have a number of its own.
		{intervals(spanOf(-1, 2)), intervals(spanOf(-1, 2)), intervals(spanOf(-2, 4))}, {intervals(spanOf(-1, 2), spanOf(1, 1)), intervals(spanOf(-1, 2), spanOf(1, 1)), intervals(spanOf(-2, 4), spanOf(-2, 4))},
		// What is rounded to 8 bits.
		{ints(257), ints(1), intervals(spanOf(256, 258))}, {ints(-257), ints(1), intervals(spanOf(-258, -256))}, {ints(17), ints(17), intervals(spanOf(288, 290))},
		{ints(1, 256), ints(1, 1), intervals(spanOf(1, 1), spanOf(256, 258))}, {ints(17, 1), ints(1, 17), intervals(spanOf(17, 17), spanOf(288, 292))},
		{intervals(spanOf(-257, 257), spanOf(1, 1)), ints(1, 1), intervals(spanOf(-258, 258), spanOf(-258, 260))},
		// The limits of numbers.
		{intervals(point(of(1, maxExp)), point(of(1, -maxExp))), ints(1, 1), intervals(point(of(1, maxExp)), from(of(1, maxExp), of(129, maxExp-7)))},
		{intervals(point(of(1, maxExp))), intervals(point(of(-1, -maxExp))), ints(-1)}, {intervals(from(minus(full(maxBits, 0)), full(maxBits, 0))), ints(1), intervals(from(of(-1, maxBits), of(1, maxBits)))},
	} {
		for k, want := range x.want {
			checkCoef(t, x.a, x.b, k, 8, want, api.OK)
			// What is behind coefficient k does not count.
			checkCoef(t, x.a[:k+1], x.b, k, 8, want, api.OK)
			checkCoef(t, append(x.a[:k+1:k+1], spanOf(-99, 99)), x.b[:k+1], k, 8, want, api.OK)
		}
	}
}

// TestCoefPlaces: each coefficient of a is multiplied by that of b with which
// it belongs to k, and by no other one.
func TestCoefPlaces(t *testing.T) {
	b := primes()
	for k := range api.MaxOrder + 1 {
		for i := range len(b) {
			want := api.Iv{}
			if i <= k {
				want = b[k-i]
			}
			checkCoef(t, only(len(b), i, spanOf(1, 1)), b, k, 8, want, api.OK)
			checkCoef(t, b, only(len(b), i, spanOf(1, 1)), k, 8, want, api.OK)
			for j := range len(b) {
				want := api.Iv{}
				if i+j == k {
					want = spanOf(-5, 7)
				}
				checkCoef(t, only(len(b), i, spanOf(-5, 7)), only(len(b), j, spanOf(1, 1)), k, 8, want, api.OK)
			}
		}
	}
}

// coefWays are all ways that differ in one thing, by its name.
func coefWays() map[string]way {
	return map[string]way{
		"the last product is the initial sum": {descending: true},
		"products and sums are rounded once":  {once: true},
		"halves of the sum are added":         {halves: true},
	}
}

// TestCoefOrder: in each of the other ways at least one result is another one.
func TestCoefOrder(t *testing.T) {
	seen := told{}
	for _, x := range []struct {
		a, b []api.Iv
		want api.Iv
	}{
		{ints(17, 1), ints(1, 17), from(of(9, 5), of(73, 2))},
		{ints(256, 1, 1), ints(1, 1, 1), from(of(1, 8), of(65, 2))},
		{ints(1, 1, 256), ints(1, 1, 1), from(of(129, 1), of(129, 1))},
		{ints(1, 1, 256, 1, 1), ints(1, 1, 1, 1, 1), from(of(129, 1), of(131, 1))},
		{intervals(spanOf(-256, 1), spanOf(1, 256), spanOf(-1, 1)), ints(1, 1, 1), from(of(-1, 8), of(65, 2))},
	} {
		k := len(x.a) - 1
		checkCoef(t, x.a, x.b, k, 8, x.want, api.OK)
		for name, w := range coefWays() {
			got, err := coefBy(w, x.a, x.b, k, 8)
			seen.tell(name, got, err, x.want, api.OK)
		}
	}
	seen.expect(t, coefWays())
}

func TestCoefOrders(t *testing.T) {
	for _, length := range []int{0, 1, api.MaxOrder, api.MaxOrder + 1, api.MaxOrder + 2, 40, 5000} {
		for _, a := range [][]api.Iv{make([]api.Iv, length), slices.Repeat(ints(1), length), slices.Repeat(intervals(point(of(1, maxExp))), length)} {
			for _, k := range noOrders() {
				checkCoef(t, a, a, k, 8, api.Iv{}, api.ErrForm)
				checkCoef(t, a, primes(), k, 8, api.Iv{}, api.ErrForm)
				checkCoef(t, primes(), a, k, 8, api.Iv{}, api.ErrForm)
			}
		}
	}
	for k := range api.MaxOrder + 1 {
		checkCoef(t, slices.Repeat(ints(1), 5000), slices.Repeat(ints(-2), 5000), k, 8, spanOf(int64(-2*k-2), int64(-2*k-2)), api.OK)
	}
}

// TestCoefLengths has series of fewer than k coefficients, of k, of k + 1 and of
// more, on either side.
func TestCoefLengths(t *testing.T) {
	for k := range api.MaxOrder + 1 {
		for i := range api.MaxOrder + 4 {
			for j := range api.MaxOrder + 4 {
				for _, x := range []int64{0, 1} {
					want, wantErr := spanOf(x*int64(k+1), x*int64(k+1)), api.OK
					if i <= k || j <= k {
						want, wantErr = api.Iv{}, api.ErrForm
					}
					checkCoef(t, slices.Repeat(ints(x), i), slices.Repeat(ints(1), j), k, 8, want, wantErr)
				}
			}
		}
		checkCoef(t, nil, primes(), k, 8, api.Iv{}, api.ErrForm)
		checkCoef(t, primes(), nil, k, 8, api.Iv{}, api.ErrForm)
		checkCoef(t, []api.Iv{}, []api.Iv{}, k, 8, api.Iv{}, api.ErrForm)
		// The capacity does not count.
		checkCoef(t, primes()[:k], primes(), k, 8, api.Iv{}, api.ErrForm)
		checkCoef(t, primes(), primes()[:k], k, 8, api.Iv{}, api.ErrForm)
	}
}

// TestCoefInvalid: what is not valid counts up to k, and not behind it, whatever
// it would be multiplied by.
func TestCoefInvalid(t *testing.T) {
	length := api.MaxOrder + 3
	for rule, x := range noIvs() {
		for k := range api.MaxOrder + 1 {
			for i := range length {
				for name, other := range map[string][]api.Iv{"0": make([]api.Iv, length), "1": slices.Repeat(ints(1), length), "over": slices.Repeat(intervals(point(of(1, maxExp))), length)} {
					for _, a := range [][]api.Iv{with(other, i, x), with(make([]api.Iv, length), i, x)} {
						want, wantErr := api.Iv{}, api.ErrForm
						if i > k {
							want, wantErr = coefBy(way{}, a, other, k, 8)
						}
						if got, err := Coef(a, other, k, 8); err != wantErr || !equalIv(got, want) {
							t.Errorf("%s at %d of a, %s: Coef %d = %s, %d", rule, i, name, k, ivText(got), err)
						}
						if i > k {
							want, wantErr = coefBy(way{}, other, a, k, 8)
						}
						if got, err := Coef(other, a, k, 8); err != wantErr || !equalIv(got, want) {
							t.Errorf("%s at %d of b, %s: Coef %d = %s, %d", rule, i, name, k, ivText(got), err)
						}
					}
				}
			}
		}
	}
}

func TestCoefPrec(t *testing.T) {
	over := slices.Repeat(intervals(point(of(1, maxExp))), api.MaxOrder+1)
	for k := range api.MaxOrder + 1 {
		for _, a := range [][]api.Iv{make([]api.Iv, k+1), primes(), over} {
			for _, prec := range noPrecs() {
				checkCoef(t, a, a, k, prec, api.Iv{}, api.ErrForm)
			}
			for _, prec := range precs() {
				want, wantErr := coefBy(way{}, a, a, k, prec)
				checkCoef(t, a, a, k, prec, want, wantErr)
			}
		}
	}
	// The result has exactly so many bits, of a product and of a sum.
	ones := intervals(point(full(300, -300)))
	for prec := api.MinPrec; prec <= api.MaxPrec; prec++ {
		checkCoef(t, ones, ints(1), 0, prec, from(full(prec, -int64(prec)), odd(1, 0)), api.OK)
		checkCoef(t, intervals(point(of(1, 300)), spanOf(1, 1)), ints(1, 1), 1, prec, from(of(1, 300), wide(prec, 301-int64(prec))), api.OK)
	}
}

// TestCoefOver has one operation that fails, for each k at each place.
func TestCoefOver(t *testing.T) {
	far, near := of(1, 40000), of(1, -40000)
	for k := range api.MaxOrder + 1 {
		for i := range k + 1 {
			// A product, by the exponent, by one end alone, and by rounding.
			for _, x := range [][2]api.Iv{
				{point(far), point(far)}, {point(near), point(near)}, {point(minus(far)), point(far)}, {from(minus(far), far), from(near, far)},
				{from(odd(1, 0), far), from(odd(1, 0), far)}, {from(near, odd(1, 0)), from(near, odd(1, 0))}, {from(minus(far), odd(1, 0)), point(far)}, {point(of(257, maxExp)), spanOf(1, 1)}, {point(full(maxBits, maxExp)), spanOf(1, 1)},
			} {
				a, b := only(k+1, i, x[0]), only(k+1, k-i, x[1])
				checkCoef(t, a, b, k, 8, api.Iv{}, api.ErrOver)
				checkCoef(t, b, a, k, 8, api.Iv{}, api.ErrOver)
				// Behind k it does not count.
				if k > 0 {
					checkCoef(t, a, b, k-1, 8, api.Iv{}, api.OK)
				}
				checkCoef(t, append(only(k+1, 0, spanOf(1, 1)), x[0]), append(only(k+1, 0, spanOf(3, 4)), x[1]), k, 8, map[bool]api.Iv{true: spanOf(3, 4)}[k == 0], api.OK)
			}
			// Of other products, which do not belong to k, none is formed.
			for j := range k + 1 {
				if i+j != k {
					checkCoef(t, only(k+1, i, point(far)), only(k+1, j, point(far)), k, 8, api.Iv{}, api.OK)
				}
			}
			// A sum of two products, which a third one may lead back.
			top := point(full(8, maxExp))
			for j := range i {
				a := with(only(k+1, i, top), j, top)
				ones := slices.Repeat(ints(1), k+1)
				checkCoef(t, a, ones, k, 8, api.Iv{}, api.ErrOver)
				checkCoef(t, ones, a, k, 8, api.Iv{}, api.ErrOver)
				for l := range k + 1 {
					if l == i || l == j {
						continue
					}
					third := with(a, l, point(minus(full(8, maxExp))))
					want, wantErr := top, api.OK
					if l > i {
						want, wantErr = api.Iv{}, api.ErrOver
					}
					checkCoef(t, third, ones, k, 8, want, wantErr)
					want, wantErr = top, api.OK
					if l < j {
						want, wantErr = api.Iv{}, api.ErrOver
					}
					checkCoef(t, ones, third, k, 8, want, wantErr)
				}
			}
		}
	}
}

// TestCoefOverOnce: each product and each sum must have a number, even if the
// exact coefficient has one.
func TestCoefOverOnce(t *testing.T) {
	far := of(1, 40000)
	for name, x := range map[string]struct{ a, b []api.Iv }{
		"products that cancel":       {intervals(point(far), point(minus(far))), intervals(point(far), point(far))},
		"a product that is too near": {intervals(point(of(1, -40000)), spanOf(1, 1)), intervals(spanOf(5, 5), point(of(1, -40000)))},
		"a sum of rounded products":  {intervals(point(of(257, maxExp-8)), point(of(-1, maxExp-8))), intervals(point(of(255, 0)), spanOf(255, 255))},
	} {
		want, wantErr := coefBy(way{}, x.a, x.b, 1, 8)
		if wantErr != api.ErrOver {
			t.Errorf("%s: %s, %d", name, ivText(want), wantErr)
		}
		checkCoef(t, x.a, x.b, 1, 8, want, wantErr)
	}
}

// TestCoefSame has the same series twice.
func TestCoefSame(t *testing.T) {
	a := primes()
	for k := range api.MaxOrder + 1 {
		for _, prec := range precs() {
			want, wantErr := coefBy(way{}, a, primes(), k, prec)
			if got, err := Coef(a, a, k, prec); err != wantErr || !equalIv(got, want) {
				t.Errorf("the square of %s: %s, %d", text(a), ivText(got), err)
			}
		}
	}
	if text(a) != text(primes()) {
		t.Errorf("Coef changes its argument to %s", text(a))
	}
}
