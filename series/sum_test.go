package series

import (
	"slices"
	"testing"

	"fathomline/api"
)

// P14.3

func TestSum(t *testing.T) {
	powers := ints(0, 0, 0, 0, 0, 0, 0, 0, 0, 0, 1)
	for _, x := range []struct {
		a       []api.Iv
		h, want api.Iv
	}{
		// One coefficient: h is of no matter, and nothing is rounded.
		{ints(5), spanOf(-9, 9), spanOf(5, 5)}, {ints(0), spanOf(-9, 9), api.Iv{}}, {intervals(spanOf(-257, 514)), spanOf(3, 3), spanOf(-257, 514)}, {ints(257), spanOf(0, 0), spanOf(257, 257)},
		{intervals(point(full(maxBits, maxExp))), point(of(1, maxExp)), point(full(maxBits, maxExp))}, {intervals(from(minus(full(maxBits, -maxExp)), full(300, 0))), spanOf(1, 2), from(minus(full(maxBits, -maxExp)), full(300, 0))},
		// Points.
		{ints(1, 2, 3), spanOf(2, 2), spanOf(17, 17)}, {ints(1, 2, 3), spanOf(-2, -2), spanOf(9, 9)}, {ints(1, 2, 3), spanOf(0, 0), spanOf(1, 1)}, {ints(1, 2, 3), spanOf(1, 1), spanOf(6, 6)}, {ints(7, 0, 0), spanOf(5, 5), spanOf(7, 7)},
		{powers, spanOf(1, 1), spanOf(1, 1)}, {powers, spanOf(2, 2), spanOf(1024, 1024)}, {powers, spanOf(-2, -2), spanOf(1024, 1024)}, {powers, point(of(1, -3)), point(of(1, -30))}, {slices.Repeat(ints(1), 7), spanOf(2, 2), spanOf(127, 127)},
		{slices.Repeat(ints(1), 8), spanOf(2, 2), spanOf(255, 255)}, {ints(0, 1, 0, -1), spanOf(3, 3), spanOf(-24, -24)},
		// h that contains 0, is negative, or is 0.
		{ints(1, 2, 3), spanOf(-1, 1), spanOf(-4, 6)}, {ints(0, 0, 0, 1), spanOf(-2, 2), spanOf(-8, 8)}, {ints(0, 0, 1), spanOf(-1, 2), spanOf(-2, 4)}, {ints(1, 1), spanOf(0, 3), spanOf(1, 4)}, {ints(1, 1), spanOf(-3, 0), spanOf(-2, 1)}, {ints(1, 1, 1), spanOf(-3, -2), spanOf(3, 7)},
		{intervals(spanOf(0, 1), spanOf(-1, 2)), spanOf(0, 3), spanOf(-3, 7)}, {intervals(spanOf(0, 1), spanOf(-1, 2)), spanOf(-3, -1), spanOf(-6, 4)}, {intervals(spanOf(-1, 1), spanOf(-5, 5)), spanOf(0, 0), spanOf(-1, 1)}, {intervals(spanOf(1, 2), spanOf(3, 4), spanOf(5, 6)), spanOf(0, 1), spanOf(1, 12)},
		// Each coefficient may have a number of its own; h too, in each product.
		{intervals(spanOf(0, 0), spanOf(-1, 1)), spanOf(-2, 3), spanOf(-3, 3)}, {ints(0, -1, 1), spanOf(0, 1), spanOf(-1, 0)},
		// What is rounded to 8 bits: products and sums, and not the last coefficient.
		{ints(0, 257), spanOf(1, 1), spanOf(256, 258)}, {ints(257, 0), spanOf(1, 1), spanOf(256, 258)}, {ints(256, 1), spanOf(1, 1), spanOf(256, 258)}, {ints(0, -257), spanOf(1, 1), spanOf(-258, -256)}, {ints(1, 255), spanOf(1, 1), spanOf(256, 256)}, {ints(2, 255), spanOf(1, 1), spanOf(256, 258)},
		{ints(0, 511), spanOf(3, 3), spanOf(1528, 1536)}, {ints(1, 17), spanOf(17, 17), spanOf(288, 292)}, {ints(-1, 17), spanOf(17, 17), spanOf(286, 290)}, {intervals(spanOf(-257, 257), spanOf(-1, 1)), spanOf(1, 1), spanOf(-258, 258)},
		{intervals(point(of(1, maxExp)), spanOf(1, 1)), spanOf(1, 1), from(of(1, maxExp), of(129, maxExp-7))}, {intervals(spanOf(0, 0), point(full(maxBits, 0))), spanOf(-1, 1), from(of(-1, maxBits), of(1, maxBits))},
	} {
		checkSum(t, x.a, x.h, 8, x.want, api.OK)
	}
}

// TestSumPlaces: each coefficient has its power of h.
func TestSumPlaces(t *testing.T) {
	for length := 1; length <= api.MaxOrder+1; length++ {
		for i := range length {
			checkSum(t, only(length, i, spanOf(3, 5)), point(of(1, 7)), 8, from(of(3, 7*int64(i)), of(5, 7*int64(i))), api.OK)
			want := from(of(3, -7*int64(i)), of(5, -7*int64(i)))
			if i%2 == 1 {
				want = from(minus(want.Hi), minus(want.Lo))
			}
			checkSum(t, only(length, i, spanOf(3, 5)), point(of(-1, -7)), 8, want, api.OK)
			// 0 takes all but the first one.
			a := with(slices.Repeat(intervals(spanOf(-300, 300)), length), 0, spanOf(3, 5))
			if length > 1 {
				checkSum(t, a, api.Iv{}, 8, spanOf(3, 5), api.OK)
			}
		}
		checkSum(t, primes()[:length], spanOf(0, 0), 8, spanOf(2, 2), api.OK)
	}
}

// sumWays are all ways that differ in one thing, by its name.
func sumWays() map[string]way {
	return map[string]way{
		"the last coefficient is rounded":           {rounded: true},
		"the coefficients are multiplied by powers": {powers: true},
		"a product and a sum are rounded once":      {once: true},
		"the coefficients are in the reverse order": {reversed: true},
	}
}

// TestSumOrder: in each of the other ways at least one result is another one.
func TestSumOrder(t *testing.T) {
	seen := told{}
	for _, x := range []struct {
		a       []api.Iv
		h, want api.Iv
	}{
		{ints(257), spanOf(1, 1), spanOf(257, 257)},
		{ints(0, 511), spanOf(3, 3), spanOf(1528, 1536)},
		{ints(0, 0, 1), spanOf(-1, 2), spanOf(-2, 4)},
		{ints(1, 17), spanOf(17, 17), spanOf(288, 292)},
		{ints(1, 2, 3), spanOf(2, 2), spanOf(17, 17)},
	} {
		checkSum(t, x.a, x.h, 8, x.want, api.OK)
		for name, w := range sumWays() {
			got, err := sumBy(w, x.a, x.h, 8)
			seen.tell(name, got, err, x.want, api.OK)
		}
	}
	seen.expect(t, sumWays())
}

// TestSumLengths has no coefficient, 1, MaxOrder + 1, one more, and others.
func TestSumLengths(t *testing.T) {
	for length := range 3 * api.MaxOrder {
		want, wantErr := spanOf(int64(length), int64(length)), api.OK
		if length < 1 || length > api.MaxOrder+1 {
			want, wantErr = api.Iv{}, api.ErrForm
		}
		checkSum(t, slices.Repeat(ints(1), length), spanOf(1, 1), 8, want, wantErr)
		checkSum(t, slices.Repeat(ints(1), 40)[:length], spanOf(1, 1), 8, want, wantErr)
		checkSum(t, make([]api.Iv, length), spanOf(-1, 1), 8, api.Iv{}, wantErr)
		if wantErr == api.ErrForm {
			checkSum(t, slices.Repeat(intervals(point(of(1, maxExp))), length), point(of(1, maxExp)), 8, api.Iv{}, api.ErrForm)
		}
	}
	checkSum(t, nil, spanOf(1, 1), 8, api.Iv{}, api.ErrForm)
	checkSum(t, []api.Iv{}, spanOf(1, 1), 8, api.Iv{}, api.ErrForm)
	checkSum(t, make([]api.Iv, 1<<16), spanOf(1, 1), 8, api.Iv{}, api.ErrForm)
}

// TestSumInvalid has what is not valid at each index of each length, and h,
// whatever the others are.
func TestSumInvalid(t *testing.T) {
	for rule, x := range noIvs() {
		for length := 1; length <= api.MaxOrder+2; length++ {
			for _, c := range []api.Iv{{}, spanOf(1, 1), point(of(1, maxExp))} {
				a := slices.Repeat(intervals(c), length)
				for i := range a {
					for _, h := range []api.Iv{{}, spanOf(1, 2), point(of(1, maxExp))} {
						if got, err := Sum(with(a, i, x), h, 8); err != api.ErrForm || !equalIv(got, api.Iv{}) {
							t.Errorf("%s at %d of %d: Sum = %s, %d", rule, i, length, ivText(got), err)
						}
					}
				}
				if got, err := Sum(a, x, 8); err != api.ErrForm || !equalIv(got, api.Iv{}) {
					t.Errorf("h: %s, of %d coefficients: Sum = %s, %d", rule, length, ivText(got), err)
				}
			}
		}
	}
}

func TestSumPrec(t *testing.T) {
	for length := 1; length <= api.MaxOrder+1; length++ {
		for _, c := range []api.Iv{{}, spanOf(-1, 3), point(of(1, maxExp))} {
			for _, h := range []api.Iv{{}, spanOf(-1, 3), point(of(1, maxExp))} {
				a := slices.Repeat(intervals(c), length)
				for _, prec := range noPrecs() {
					checkSum(t, a, h, prec, api.Iv{}, api.ErrForm)
				}
				for _, prec := range precs() {
					want, wantErr := sumBy(way{}, a, h, prec)
					checkSum(t, a, h, prec, want, wantErr)
				}
			}
		}
	}
	// The result has exactly so many bits, of a product and of a sum.
	third := point(full(300, -300))
	for prec := api.MinPrec; prec <= api.MaxPrec; prec++ {
		rounded := from(full(prec, -int64(prec)), odd(1, 0))
		checkSum(t, intervals(api.Iv{}, third), spanOf(1, 1), prec, rounded, api.OK)
		checkSum(t, intervals(third, api.Iv{}), spanOf(1, 1), prec, rounded, api.OK)
		checkSum(t, intervals(spanOf(1, 1), point(of(1, 300))), spanOf(1, 1), prec, from(of(1, 300), wide(prec, 301-int64(prec))), api.OK)
		checkSum(t, intervals(third), spanOf(1, 1), prec, third, api.OK)
	}
}

// TestSumOver has one operation that fails, for each length at each place.
func TestSumOver(t *testing.T) {
	far, near := of(1, 40000), of(1, -40000)
	edge := full(8, maxExp)
	for length := 2; length <= api.MaxOrder+1; length++ {
		for i := range length {
			// A product by h; the first coefficient has none.
			for _, x := range [][2]api.Iv{{point(far), point(far)}, {point(near), point(near)}, {from(minus(far), odd(1, 0)), from(odd(1, 0), far)}, {point(of(257, maxExp)), spanOf(1, 1)}, {point(full(maxBits, maxExp)), spanOf(-1, -1)}} {
				a := only(length, i, x[0])
				want, wantErr := api.Iv{}, api.ErrOver
				if i == 0 {
					want, wantErr = sumBy(way{}, a, x[1], 8)
				}
				checkSum(t, a, x[1], 8, want, wantErr)
			}
			// A sum, which the next coefficient may lead back.
			if i == 0 {
				continue
			}
			a := with(only(length, i, point(edge)), i-1, point(edge))
			checkSum(t, a, spanOf(1, 1), 8, api.Iv{}, api.ErrOver)
			if i > 1 {
				checkSum(t, with(a, i-2, point(minus(edge))), spanOf(1, 1), 8, api.Iv{}, api.ErrOver)
			}
			if i < length-1 {
				checkSum(t, with(a, i+1, point(minus(edge))), spanOf(1, 1), 8, point(edge), api.OK)
			}
			checkSum(t, with(a, i-1, point(minus(edge))), spanOf(1, 1), 8, api.Iv{}, api.OK)
			// One end alone.
			checkSum(t, with(a, i-1, from(api.Num{}, edge)), spanOf(1, 1), 8, api.Iv{}, api.ErrOver)
			checkSum(t, with(a, i-1, from(minus(edge), api.Num{})), spanOf(1, 1), 8, from(api.Num{}, edge), api.OK)
		}
		// The first coefficient alone is rounded in a sum too.
		checkSum(t, only(length, 0, point(of(257, maxExp))), spanOf(1, 1), 8, api.Iv{}, api.ErrOver)
		// h is multiplied by what is 0 as well, which never fails.
		checkSum(t, only(length, 0, spanOf(3, 4)), point(full(maxBits, maxExp)), 8, spanOf(3, 4), api.OK)
	}
	// The exact value has a number, and a product on the way to it has none.
	checkSum(t, intervals(spanOf(0, 0), spanOf(0, 0), point(of(1, -maxExp))), point(near), 8, api.Iv{}, api.ErrOver)
	checkSum(t, intervals(spanOf(0, 0), point(minus(far)), spanOf(1, 1)), point(far), 8, api.Iv{}, api.OK)
	checkSum(t, intervals(spanOf(0, 0), spanOf(0, 0), spanOf(1, 1)), point(far), 8, api.Iv{}, api.ErrOver)
}
