package flow

import (
	"math/big"
	"slices"
	"testing"

	"fathomline/api"
)

// P15.3: exact Taylor coefficients of a solution are the repeated derivatives
// along the field at the initial value, over factorials. They are computed by
// fractions and polynomials, without any series.

// powers are a monomial's exponents.
type powers [api.MaxDim]int

// sum is a polynomial, by its exponents.
type sum map[powers]*big.Rat

func (s sum) add(e powers, c *big.Rat) {
	if s[e] == nil {
		s[e] = new(big.Rat)
	}
	s[e].Add(s[e], c)
}

func fraction(d dyadic) *big.Rat {
	scale := new(big.Rat).SetInt(new(big.Int).Lsh(big.NewInt(1), uint(max(d.exp, -d.exp))))
	if d.exp < 0 {
		scale.Inv(scale)
	}
	return scale.Mul(scale, new(big.Rat).SetInt(d.m))
}

func sumOf(p []api.Mono) sum {
	s := sum{}
	for _, m := range p {
		var e powers
		copy(e[:], m.E)
		s.add(e, fraction(valueOf(m.C)))
	}
	return s
}

// along is the derivative of s along f.
func (s sum) along(f []sum) sum {
	derivative := sum{}
	for e, c := range s {
		for j, p := range f {
			if e[j] == 0 {
				continue
			}
			for d, factor := range p {
				product := d
				for i := range product {
					product[i] += e[i]
				}
				product[j]--
				term := new(big.Rat).Mul(c, factor)
				derivative.add(product, term.Mul(term, big.NewRat(int64(e[j]), 1)))
			}
		}
	}
	return derivative
}

// at is the value of s at x.
func (s sum) at(x []*big.Rat) *big.Rat {
	total := new(big.Rat)
	for e, c := range s {
		v := new(big.Rat).Set(c)
		for i, y := range x {
			for range e[i] {
				v.Mul(v, y)
			}
		}
		total.Add(total, v)
	}
	return total
}

// derivatives are for each variable its repeated derivatives along the field.
func derivatives(f [][]api.Mono, order int) [][]sum {
	var sums []sum
	for _, p := range f {
		sums = append(sums, sumOf(p))
	}
	var l [][]sum
	for i := range f {
		var e powers
		e[i] = 1
		own := []sum{{e: big.NewRat(1, 1)}}
		for k := range order {
			own = append(own, own[k].along(sums))
		}
		l = append(l, own)
	}
	return l
}

// taylor are the exact coefficients of the solution from x.
func taylor(l [][]sum, x []*big.Rat) [][]*big.Rat {
	var coefs [][]*big.Rat
	for _, own := range l {
		var a []*big.Rat
		factorial := big.NewRat(1, 1)
		for k, s := range own {
			if k > 0 {
				factorial.Mul(factorial, big.NewRat(int64(k), 1))
			}
			a = append(a, new(big.Rat).Quo(s.at(x), factorial))
		}
		coefs = append(coefs, a)
	}
	return coefs
}

func within(x *big.Rat, a api.Iv) bool {
	return fraction(valueOf(a.Lo)).Cmp(x) <= 0 && x.Cmp(fraction(valueOf(a.Hi))) <= 0
}

// isNear reports whether a has no two numbers that differ by more than 2^-bits
// times its greatest one.
func isNear(a api.Iv, bits uint) bool {
	lo, hi := fraction(valueOf(a.Lo)), fraction(valueOf(a.Hi))
	size := new(big.Rat).Abs(hi)
	if other := new(big.Rat).Abs(lo); other.Cmp(size) > 0 {
		size = other
	}
	return new(big.Rat).Mul(new(big.Rat).Sub(hi, lo), new(big.Rat).SetInt(new(big.Int).Lsh(big.NewInt(1), bits))).Cmp(size) <= 0
}

// fractions are the numbers n/d, as pairs.
func fractions(pairs ...int64) []*big.Rat {
	var l []*big.Rat
	for i := 0; i < len(pairs); i += 2 {
		l = append(l, big.NewRat(pairs[i], pairs[i+1]))
	}
	return l
}

// TestKnownSolutions has series that are found in books.
func TestKnownSolutions(t *testing.T) {
	for name, x := range map[string]struct {
		f    [][]api.Mono
		x    []api.Iv
		want [][]*big.Rat
	}{
		"exponential":    {fieldOf(list(mono(1, 1))), ints(1), [][]*big.Rat{fractions(1, 1, 1, 1, 1, 2, 1, 6, 1, 24, 1, 120, 1, 720, 1, 5040, 1, 40320, 1, 362880, 1, 3628800)}},
		"1 / (1 - t)":    {fieldOf(list(mono(1, 2))), ints(1), [][]*big.Rat{fractions(1, 1, 1, 1, 1, 1, 1, 1, 1, 1, 1, 1, 1, 1, 1, 1, 1, 1, 1, 1, 1, 1)}},
		"1 / sqrt(1-2t)": {fieldOf(list(mono(1, 3))), ints(1), [][]*big.Rat{fractions(1, 1, 1, 1, 3, 2, 5, 2, 35, 8, 63, 8, 231, 16, 429, 16, 6435, 128, 12155, 128, 46189, 256)}},
		"tangent":        {fieldOf(list(mono(1, 2), mono(1, 0))), ints(0), [][]*big.Rat{fractions(0, 1, 1, 1, 0, 1, 1, 3, 0, 1, 2, 15, 0, 1, 17, 315, 0, 1, 62, 2835, 0, 1)}},
		"logistic":       {fieldOf(list(mono(-1, 2), mono(1, 1))), intervals(half()), [][]*big.Rat{fractions(1, 2, 1, 4, 0, 1, -1, 48, 0, 1, 1, 480, 0, 1, -17, 80640, 0, 1, 31, 1451520, 0, 1)}},
		"sine and cosine": {fieldOf(list(mono(1, 0, 1)), list(mono(-1, 1, 0))), ints(0, 1), [][]*big.Rat{
			fractions(0, 1, 1, 1, 0, 1, -1, 6, 0, 1, 1, 120, 0, 1, -1, 5040, 0, 1, 1, 362880, 0, 1),
			fractions(1, 1, 0, 1, -1, 2, 0, 1, 1, 24, 0, 1, -1, 720, 0, 1, 1, 40320, 0, 1, -1, 3628800)}},
		// The third variable is the time.
		"exp(t^2 / 2) and erf": {fieldOf(list(mono(1, 1, 0, 1)), list(mono(1, 1, 0, 0)), constant(3, 1)), ints(1, 0, 0), [][]*big.Rat{
			fractions(1, 1, 0, 1, 1, 2, 0, 1, 1, 8, 0, 1, 1, 48, 0, 1, 1, 384, 0, 1, 1, 3840),
			fractions(0, 1, 1, 1, 0, 1, 1, 6, 0, 1, 1, 40, 0, 1, 1, 336, 0, 1, 1, 3456, 0, 1),
			fractions(0, 1, 1, 1, 0, 1, 0, 1, 0, 1, 0, 1, 0, 1, 0, 1, 0, 1, 0, 1, 0, 1)}},
		"elliptic": {fieldOf(list(mono(1, 0, 1, 1)), list(mono(-1, 1, 0, 1)), list(mono(-1, 1, 1, 0))), ints(0, 1, 1), [][]*big.Rat{
			fractions(0, 1, 1, 1, 0, 1, -1, 3, 0, 1, 2, 15, 0, 1, -17, 315, 0, 1, 62, 2835, 0, 1), // tanh, for the modulus 1
			fractions(1, 1, 0, 1, -1, 2, 0, 1, 5, 24, 0, 1, -61, 720, 0, 1, 277, 8064, 0, 1, -50521, 3628800),
			fractions(1, 1, 0, 1, -1, 2, 0, 1, 5, 24, 0, 1, -61, 720, 0, 1, 277, 8064, 0, 1, -50521, 3628800)}},
	} {
		for _, prec := range precs() {
			got, err := Series(x.f, x.x, api.MaxOrder, prec)
			if err != api.OK || len(got) != len(x.want) {
				t.Fatalf("%s: %s, %d", name, texts(got), err)
			}
			for i, a := range got {
				if len(a) != api.MaxOrder+1 {
					t.Fatalf("%s: %d coefficients", name, len(a))
				}
				for k, c := range a {
					if !within(x.want[i][k], c) {
						t.Errorf("%s, %d bits: coefficient %d of variable %d is %s and has not %s", name, prec, k, i, ivText(c), x.want[i][k])
					}
					if prec > 24 && !isNear(c, uint(prec)-20) && x.want[i][k].Sign() != 0 {
						t.Errorf("%s, %d bits: coefficient %d of variable %d is %s", name, prec, k, i, ivText(c))
					}
				}
			}
		}
		if l := taylor(derivatives(x.f, 6), fractionsOf(x.x)); !slices.EqualFunc(l, x.want, func(a, b []*big.Rat) bool {
			return slices.EqualFunc(a, b[:7], func(y, z *big.Rat) bool { return y.Cmp(z) == 0 })
		}) {
			t.Errorf("%s: derivatives along the field lead to %v", name, l)
		}
	}
}

// fractionsOf are the lower ends.
func fractionsOf(x []api.Iv) []*big.Rat {
	var l []*big.Rat
	for _, a := range x {
		l = append(l, fraction(valueOf(a.Lo)))
	}
	return l
}

// between is a number in a: an end, or one that cuts a into parts.
func (s *source) between(a api.Iv) *big.Rat {
	lo, hi := fraction(valueOf(a.Lo)), fraction(valueOf(a.Hi))
	switch s.below(4) {
	case 0:
		return lo
	case 1:
		return hi
	}
	part := new(big.Rat).Sub(hi, lo)
	return lo.Add(lo, part.Mul(part, big.NewRat(int64(s.below(22)), 21)))
}

// horner is the value of a at h.
func horner(a []*big.Rat, h *big.Rat) *big.Rat {
	v := new(big.Rat)
	for _, c := range slices.Backward(a) {
		v.Mul(v, h)
		v.Add(v, c)
	}
	return v
}

// sizes are degrees and orders for which the derivatives of fields of n
// variables have few enough terms.
func (s *source) sizes(n int) (int, int) {
	switch n {
	case 1:
		return 1 + s.below(api.MaxDeg), s.below(api.MaxOrder + 1)
	case 2:
		return 1 + s.below(3), s.below(7)
	}
	return 1 + s.below(2), s.below(5)
}

// TestSeriesContains has points of boxes, and the exact values of the truncated
// solutions from them.
func TestSeriesContains(t *testing.T) {
	s := source(4)
	seen, ends, values := 0, 0, 0
	for range 700 {
		n, prec := 1+s.below(api.MaxDim), api.MinPrec+s.below(60)
		degree, order := s.sizes(n)
		f, x, h := s.field(n, degree, 1+s.below(4)), s.box(n), s.interval(1+s.below(2))
		got, err := Series(f, x, order, prec)
		if err != api.OK || len(got) != n {
			t.Fatalf("Series(%s, %s, %d, %d) = %s, %d", fieldText(f), text(x), order, prec, texts(got), err)
		}
		ahead, sumErr := Sum(got, h, prec)
		l := derivatives(f, order)
		for range 4 {
			var start []*big.Rat
			for _, a := range x {
				start = append(start, s.between(a))
			}
			time := s.between(h)
			for i, a := range taylor(l, start) {
				for k, c := range a {
					seen++
					if !within(c, got[i][k]) {
						t.Fatalf("Series(%s, %s, %d, %d): coefficient %d of variable %d is %s and has not %s, from %v", fieldText(f), text(x), order, prec, k, i, ivText(got[i][k]), c, start)
					}
					if c.Cmp(fraction(valueOf(got[i][k].Lo))) == 0 || c.Cmp(fraction(valueOf(got[i][k].Hi))) == 0 {
						ends++
					}
				}
				if sumErr == api.OK {
					values++
					if v := horner(a, time); !within(v, ahead[i]) {
						t.Fatalf("Sum(%s, %s, %d): value %d is %s and has not %s", texts(got), ivText(h), prec, i, ivText(ahead[i]), v)
					}
				}
			}
		}
	}
	if seen < 10000 || ends < 1000 || values < 5000 {
		t.Errorf("%d coefficients, %d at ends, %d values", seen, ends, values)
	}
}

// TestExactPoints: from a point, with enough bits and without any rounding, a
// result is the exact value alone.
func TestExactPoints(t *testing.T) {
	s := source(5)
	for range 300 {
		n := 1 + s.below(api.MaxDim)
		degree, order := s.sizes(n)
		order = min(order, 2) // a division by 2 is exact
		f, x := s.field(n, min(degree, 3), 3), s.box(n)
		for i := range x {
			x[i] = spanOf(int64(s.below(19))-9, 0)
			x[i].Hi = x[i].Lo
		}
		got, err := Series(f, x, order, api.MaxPrec)
		if err != api.OK || len(got) != n {
			t.Fatalf("Series(%s, %s) = %s, %d", fieldText(f), text(x), texts(got), err)
		}
		for i, a := range taylor(derivatives(f, order), fractionsOf(x)) {
			for k, c := range a {
				if !equal(got[i][k].Lo, got[i][k].Hi) || !within(c, got[i][k]) {
					t.Fatalf("Series(%s, %s): coefficient %d of variable %d is %s, not %s", fieldText(f), text(x), k, i, ivText(got[i][k]), c)
				}
			}
		}
	}
}
