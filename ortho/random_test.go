package ortho

import (
	"testing"

	"fathomline/api"
)

// source yields the same words in every run.
type source uint64

func (s *source) next() uint64 {
	*s += 0x9e3779b97f4a7c15
	x := uint64(*s)
	x = (x ^ x>>30) * 0xbf58476d1ce4e5b9
	x = (x ^ x>>27) * 0x94d049bb133111eb
	return x ^ x>>31
}

func (s *source) below(n int) int { return int(s.next() % uint64(n)) }

func (s *source) prec() int {
	if s.below(2) == 0 {
		return inside()[s.below(len(inside()))]
	}
	return api.MinPrec + s.below(api.MaxPrec-api.MinPrec+1)
}

// small is an integer of few bits, and often 0, 1 or -1.
func (s *source) small() api.Num {
	if s.below(3) == 0 {
		return odd(int64(s.below(3)-1), 0)
	}
	return odd(int64(s.below(1200)-600), 0)
}

// long has one to three words, and is near 1.
func (s *source) long() api.Num {
	w := make([]uint64, 1+s.below(3))
	for i := range w {
		w[i] = s.next() >> s.below(64)
	}
	w[0] |= 1
	w[len(w)-1] |= 1
	return api.Num{Neg: s.below(2) == 0, Exp: int64(s.below(20) - 10 - 64*len(w)), W: w}
}

// far is of any size, up to the bounds of exponents and bits.
func (s *source) far() api.Num {
	exps := []int64{0, 20000, -20000, 32765, -32765, 46000, -46000, maxExp - 10, 10 - maxExp}
	x := s.small()
	if len(x.W) == 0 {
		return x
	}
	if s.below(8) == 0 {
		x = wide(maxBits-s.below(70), 0)
	}
	x.Exp = exps[s.below(len(exps))] + int64(s.below(21)-10)
	return x
}

// kinds are sources of elements.
func (s *source) kinds() []func() api.Num {
	return []func() api.Num{s.small, s.small, s.long, s.far, func() api.Num {
		if s.below(5) == 0 {
			return s.far()
		}
		return s.small()
	}}
}

// matrix is valid. Some have many elements of 0, and in some a column depends
// on those before it.
func (s *source) matrix(element func() api.Num) [][]api.Num {
	a := filled(1+s.below(api.MaxDim), api.Num{})
	thin := s.below(2) == 0
	for i, r := range a {
		for j := range r {
			if !thin || i == j || s.below(2) == 0 {
				r[j] = element()
			}
		}
	}
	a = ordered(a, orders(len(a))[s.below(len(orders(len(a))))])
	if k := s.below(len(a)); k > 0 && s.below(6) == 0 {
		for _, r := range a {
			r[k] = r[k-1]
		}
	}
	return a
}

// numbersOf are values that the reference holds to be valid.
func numbersOf(values [][]dyadic) [][]api.Num {
	return mapped(values, func(d dyadic) api.Num {
		x, _ := d.number()
		return x
	})
}

// check holds Columns against the reference and returns the operation that
// fails.
func check(t *testing.T, a [][]api.Num, prec int) string {
	t.Helper()
	c := newCalc(prec)
	want := c.columns(a)
	if c.err != api.OK {
		fails(t, a, prec, c.err, text(a)+": "+c.what)
		return c.what
	}
	yields(t, a, prec, flipped(numbersOf(want)))
	return "OK"
}

func TestAgainstExact(t *testing.T) {
	s := source(1)
	seen := map[string]int{}
	for range 3000 {
		for _, element := range s.kinds() {
			a, prec := s.matrix(element), s.prec()
			if s.below(2) == 0 {
				prec = 8 + s.below(4)
			}
			seen[check(t, a, prec)]++
		}
		if t.Failed() {
			return
		}
	}
	for what, least := range map[string]int{
		"OK": 9000, "column 0": 300, "column 1": 300, "column 2": 100, "column 3": 50, "scaling 01": 100, "scaling 11": 10,
		"product uv101": 50, "product uu101": 50, "product cu101": 2, "difference 101": 2, "quotient 10": 5, "product uv212": 5, "product uu212": 10,
	} {
		if seen[what] < least {
			t.Errorf("only %d times %s", seen[what], what)
		}
	}
}

// TestAllSmall has all matrices of two rows of few integers.
func TestAllSmall(t *testing.T) {
	list := []int64{0, 1, -1, 2, -3, 5, 257, -259}
	n := len(list)
	for code := range n * n * n * n {
		at := func(k int) api.Num { return odd(list[code/k%n], 0) }
		check(t, [][]api.Num{{at(1), at(n)}, {at(n * n), at(n * n * n)}}, 8)
	}
}
