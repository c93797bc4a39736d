package ortho

import (
	"math/big"
	"testing"

	"fathomline/api"
)

// P9.2: the dot products of the columns, without any rounding.

// greatestDot is the greatest absolute value of the dot products of two columns
// of a.
func greatestDot(a [][]api.Num) dyadic {
	columns := flipped(mapped(a, valueOf))
	greatest := whole(0)
	for k, v := range columns {
		for _, u := range columns[:k] {
			sum := whole(0)
			for i, x := range u {
				sum = sum.plus(x.times(v[i]))
			}
			if sum.size().cmp(greatest) > 0 {
				greatest = sum.size()
			}
		}
	}
	return greatest
}

func areOrthogonal(a [][]api.Num) bool { return greatestDot(a).m.Sign() == 0 }

// TestUnrounded: wherever the reference rounds nothing, the columns are
// orthogonal.
func TestUnrounded(t *testing.T) {
	s := source(2)
	seen := map[int]int{}
	tiny := func() api.Num { return odd(int64(s.below(3)-1), 0) }
	for range 4000 {
		for _, element := range []func() api.Num{tiny, tiny, tiny, s.small, s.far} {
			a, prec := s.matrix(element), s.prec()
			c := newCalc(prec)
			if c.columns(a); c.err != api.OK || !c.exact {
				continue
			}
			if r, err := Columns(a, prec); err != api.OK || len(r) != len(a) || !areOrthogonal(r) {
				t.Fatalf("Columns(%s, %d) = %s, %d is not orthogonal", text(a), prec, text(r), err)
			}
			seen[len(a)]++
		}
	}
	if seen[2] < 1000 || seen[3] < 300 || seen[4] < 100 {
		t.Errorf("exact results: %v", seen)
	}
}

// turn has orthogonal columns of integers, by the product of quaternions: for
// 2 rows that with a complex number, for 3 rows a turn in space.
func (s *source) turn(n int) [][]int64 {
	a, b, c, d := int64(1+s.below(9)), int64(s.below(19)-9), int64(s.below(19)-9), int64(s.below(19)-9)
	switch n {
	case 1:
		return [][]int64{{a}}
	case 2:
		return [][]int64{{a, -b}, {b, a}}
	case 3:
		return [][]int64{
			{a*a + b*b - c*c - d*d, 2 * (b*c - a*d), 2 * (b*d + a*c)},
			{2 * (b*c + a*d), a*a - b*b + c*c - d*d, 2 * (c*d - a*b)},
			{2 * (b*d - a*c), 2 * (c*d + a*b), a*a - b*b - c*c + d*d},
		}
	}
	return [][]int64{{a, -b, -c, -d}, {b, a, -d, c}, {c, d, a, -b}, {d, -c, b, a}}
}

// slanted adds multiples of the columns to those behind them.
func (s *source) slanted(q [][]int64) [][]int64 {
	a := mapped(q, func(x int64) int64 { return x })
	for k := range q {
		for l := range k {
			m := int64(s.below(41) - 20)
			for i, r := range q {
				a[i][k] += m * r[l]
			}
		}
	}
	return a
}

// TestTurns: what was added to orthogonal columns is subtracted again. All values
// have few bits, and the factors are integers times a power of two.
func TestTurns(t *testing.T) {
	s := source(3)
	for range 3000 {
		q := s.turn(1 + s.below(api.MaxDim))
		if !areOrthogonal(numbersOf(mapped(q, whole))) {
			t.Fatalf("%v is not orthogonal", q)
		}
		a := numbersOf(mapped(s.slanted(q), whole))
		var want [][]dyadic
		for k, v := range flipped(mapped(q, whole)) {
			want = append(want, newCalc(8).scale(v, k))
		}
		for _, prec := range []int{48, 64, 256} {
			yields(t, a, prec, flipped(numbersOf(want)))
		}
		if t.Failed() {
			return
		}
	}
}

// TestNearlyOrthogonal has columns that are far from dependent: what rounding
// leaves is small.
func TestNearlyOrthogonal(t *testing.T) {
	s := source(4)
	for range 1500 {
		a := filled(1+s.below(api.MaxDim), api.Num{})
		for i, r := range a {
			for j := range r {
				r[j] = odd(int64(s.below(19)-9), 0)
			}
			r[i] = odd(int64(100+s.below(50))*int64(1-2*s.below(2)), 0)
		}
		a = ordered(a, orders(len(a))[s.below(len(orders(len(a))))])
		for _, prec := range []int{12, 53, 64, 128, 256} {
			least := dyadic{big.NewInt(1), int64(4 - prec)}
			if r, err := Columns(a, prec); err != api.OK || len(r) != len(a) || greatestDot(r).cmp(least) >= 0 {
				t.Fatalf("Columns(%s, %d) = %s, %d is not nearly orthogonal", text(a), prec, text(r), err)
			}
		}
	}
}
