package inv

import (
	"testing"

	"fathomline/api"
)

// source yields the same words in every run.
type source uint64

func (s *source) next() uint64 {
	*s += 0x9e3779b97f4a7c15
	x := uint64(*s)
	x = (x ^ x>>30) * 0xbf58476d1ce4e5b9
	x = (x ^ x>>27) * 0x94d049bb133111eb
	return x ^ x>>31
}

func (s *source) below(n int) int { return int(s.next() % uint64(n)) }

func (s *source) prec() int {
	if s.below(2) == 0 {
		return inside()[s.below(len(inside()))]
	}
	return api.MinPrec + s.below(api.MaxPrec-api.MinPrec+1)
}

// small is an integer of few bits, and often 0, 1 or -1.
func (s *source) small() api.Num {
	if s.below(3) == 0 {
		return odd(int64(s.below(3)-1), 0)
	}
	return odd(int64(s.below(1200)-600), 0)
}

// long has one to three words, and is near 1.
func (s *source) long() api.Num {
	w := make([]uint64, 1+s.below(3))
	for i := range w {
		w[i] = s.next() >> s.below(64)
	}
	w[0] |= 1
	w[len(w)-1] |= 1
	return api.Num{Neg: s.below(2) == 0, Exp: int64(s.below(20) - 10 - 64*len(w)), W: w}
}

// far is of any size, up to the bounds of exponents and bits.
func (s *source) far() api.Num {
	exps := []int64{0, 20000, -20000, 32765, -32765, 46000, -46000, maxExp - 10, 10 - maxExp}
	x := s.small()
	if len(x.W) == 0 {
		return x
	}
	if s.below(8) == 0 {
		x = wide(maxBits-s.below(70), 0)
	}
	x.Exp = exps[s.below(len(exps))] + int64(s.below(21)-10)
	return x
}

// kinds are sources of elements.
func (s *source) kinds() []func() api.Num {
	return []func() api.Num{s.small, s.small, s.long, s.far, func() api.Num {
		if s.below(5) == 0 {
			return s.far()
		}
		return s.small()
	}}
}

// matrix is valid, and has some rows or elements of 0 in addition.
func (s *source) matrix(element func() api.Num) [][]api.Num {
	a := filled(1+s.below(api.MaxDim), api.Num{})
	thin := s.below(2) == 0
	for i, r := range a {
		for j := range r {
			if !thin || i == j || s.below(2) == 0 {
				r[j] = element()
			}
		}
	}
	return ordered(a, orders(len(a))[s.below(len(orders(len(a))))])
}

// numbersOf are values that the reference holds to be valid.
func numbersOf(values [][]dyadic) [][]api.Num {
	return mapped(values, func(d dyadic) api.Num {
		x, _ := d.number()
		return x
	})
}

func checkApprox(t *testing.T, a [][]api.Num, prec int) string {
	t.Helper()
	c := &calc{prec: prec}
	want := c.approx(a)
	if c.err != api.OK {
		approxFails(t, a, prec, c.err, text(a)+": "+c.what)
		return c.what
	}
	approximates(t, a, prec, numbersOf(want))
	return "OK"
}

func checkSure(t *testing.T, a [][]api.Num, prec int) string {
	t.Helper()
	c := &calc{prec: prec}
	want := c.sure(a)
	if c.err != api.OK {
		sureFails(t, a, prec, c.err, text(a)+": "+c.what)
		return c.what
	}
	lo := mapped(want, func(s span) dyadic { return s.lo })
	hi := mapped(want, func(s span) dyadic { return s.hi })
	encloses(t, a, prec, numbersOf(lo), numbersOf(hi))
	return "OK"
}

// TestAgainstExact holds both functions against the reference.
func TestAgainstExact(t *testing.T) {
	s := source(1)
	seen := map[string]int{}
	for range 1500 {
		for _, element := range s.kinds() {
			a, prec := s.matrix(element), s.prec()
			if s.below(2) == 0 {
				prec = 8 + s.below(4)
			}
			seen["Approx "+checkApprox(t, a, prec)]++
			seen["Sure "+checkSure(t, a, prec)]++
		}
		if t.Failed() {
			return
		}
	}
	for what, least := range map[string]int{"Approx OK": 3000, "Sure OK": 2000, "Approx pivot": 300, "Sure e": 300, "Approx product 10r0": 5, "Approx quotient 11a0": 2} {
		if seen[what] < least {
			t.Errorf("only %d times %s", seen[what], what)
		}
	}
}

// TestAllSmall has all matrices of two rows of few integers.
func TestAllSmall(t *testing.T) {
	list := []int64{0, 1, -1, 2, -3, 5, 257, -259}
	n := len(list)
	for code := range n * n * n * n {
		a := ints(row{list[code%n], list[code/n%n]}, row{list[code/n/n%n], list[code/n/n/n]})
		checkApprox(t, a, 8)
		checkSure(t, a, 8)
	}
}
