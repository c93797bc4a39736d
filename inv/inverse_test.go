package inv

import (
	"fmt"
	"math/big"
	"testing"

	"fathomline/api"
)

// P8.3: the elements of the exact inverse are fractions of determinants.

// without is a without row i and column j.
func without(a [][]dyadic, i, j int) [][]dyadic {
	var b [][]dyadic
	for k, r := range a {
		if k != i {
			b = append(b, append(append([]dyadic{}, r[:j]...), r[j+1:]...))
		}
	}
	return b
}

// determinant is that of a, by its first row.
func determinant(a [][]dyadic) dyadic {
	if len(a) == 0 {
		return whole(1)
	}
	sum := whole(0)
	for j, x := range a[0] {
		if x.m.Sign() != 0 {
			sum = sum.plus(x.times(signed(j, determinant(without(a, 0, j)))))
		}
	}
	return sum
}

// signed is d, or -d if n is odd.
func signed(n int, d dyadic) dyadic {
	if n%2 == 0 {
		return d
	}
	return d.negated()
}

// hasFraction reports whether p / q is in a.
func hasFraction(a api.Iv, p, q dyadic) bool {
	lo, hi := valueOf(a.Lo).times(q), valueOf(a.Hi).times(q)
	if q.m.Sign() < 0 {
		lo, hi = hi, lo
	}
	return lo.cmp(p) <= 0 && p.cmp(hi) <= 0
}

// hasInverse reports whether a has an inverse, and it is in m.
func hasInverse(m [][]api.Iv, numbers [][]api.Num) bool {
	a := valuesOf(numbers)
	det := determinant(a)
	if det.m.Sign() == 0 || len(m) != len(a) {
		return false
	}
	for i := range a {
		for j := range a {
			if !hasFraction(m[i][j], signed(i+j, determinant(without(a, j, i))), det) {
				return false
			}
		}
	}
	return true
}

// checkInverse reports whether Sure has a result, which must have the inverse.
func checkInverse(t *testing.T, a [][]api.Num, prec int) bool {
	t.Helper()
	m, err := Sure(a, prec)
	if err == api.OK && !hasInverse(m, a) {
		t.Errorf("Sure(%s, %d) has no inverse: from %s to %s", text(a), prec, text(lows(m)), text(highs(m)))
	}
	return err == api.OK
}

func TestInverseContained(t *testing.T) {
	for _, x := range []string{
		"2", "3", "-3", "257", "-257", "0 1; 1 0", "1 2; 3 4", "4 0 0; 0 1 0; 0 3 -2", "1 257; 1 2", "-1 -3; -9 105", "3 -1 -6; -1 -3 6; 0 -5 269",
		"1p-60000 1; 1 1", "1 257p-2 257p-3 257p-4; 0 1 0 0; 0 0 1 0; 0 0 0 1", "1 1p60000; 1 0", "5 1 1 1; 1 5 1 1; 1 1 5 1; 1 1 1 5",
		"1 257p-60000; 0 1", "3 0; 0 3p-3000", "3p3000 1; 1 3", "-7 3 1; 3 -7 1; 1 1 -7",
	} {
		for prec := api.MinPrec; prec <= api.MaxPrec; prec++ {
			if !checkInverse(t, matrix(x), prec) {
				t.Errorf("Sure(%s, %d) has no result", x, prec)
			}
		}
	}
}

func TestRandomInverses(t *testing.T) {
	s := source(2)
	seen := 0
	for range 2000 {
		for _, element := range s.kinds() {
			prec := s.prec()
			if s.below(2) == 0 {
				prec = 8 + s.below(8)
			}
			if checkInverse(t, s.matrix(element), prec) {
				seen++
			}
		}
		if t.Failed() {
			return
		}
	}
	if seen < 3000 {
		t.Errorf("only %d results", seen)
	}
}

// TestNearSingular has rows that depend on each other but for one element: an
// inverse is found only where there are enough bits, and never for rows that
// do depend on each other.
func TestNearSingular(t *testing.T) {
	s := source(3)
	seen := map[string]int{}
	for range 3000 {
		n := 2 + s.below(api.MaxDim-1)
		a := filled(n, api.Num{})
		for i, r := range a {
			for j := range r {
				r[j] = odd(int64(s.below(41)-20), 0)
				if i == n-1 {
					r[j] = sumOf(a[:i], j)
				}
			}
		}
		a = ordered(a, orders(n)[s.below(len(orders(n)))])
		prec := 8 + s.below(40)
		if _, err := Sure(a, prec); err == api.OK {
			t.Fatalf("Sure(%s, %d) has a result", text(a), prec)
		}
		i, j := s.below(n), s.below(n)
		exp := int64(s.below(50)) - 45
		near := but(a, i, j, valueOf(a[i][j]).plus(dyadic{big.NewInt(1), exp}).mustNumber())
		seen[fmt.Sprint(checkInverse(t, near, prec))]++
	}
	if seen["true"] < 500 || seen["false"] < 500 {
		t.Errorf("results: %v", seen)
	}
}

// sumOf is the sum of the rows' elements in column j.
func sumOf(rows [][]api.Num, j int) api.Num {
	sum := whole(0)
	for _, r := range rows {
		sum = sum.plus(valueOf(r[j]))
	}
	return sum.mustNumber()
}

// mustNumber is the valid number with a value that is known to have one.
func (d dyadic) mustNumber() api.Num {
	x, ok := d.number()
	if !ok {
		panic("no valid number")
	}
	return x
}
