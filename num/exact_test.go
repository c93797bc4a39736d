package num

import (
	"math/big"
	"testing"

	"fathomline/api"
)

// P2.4: the results are those of another implementation, which knows nothing
// of limits. It decides too whether a valid number has the value.

// source yields the same words in every run.
type source uint64

func (s *source) next() uint64 {
	*s += 0x9e3779b97f4a7c15
	x := uint64(*s)
	x = (x ^ x>>30) * 0xbf58476d1ce4e5b9
	x = (x ^ x>>27) * 0x94d049bb133111eb
	return x ^ x>>31
}

func (s *source) below(n int) int { return int(s.next() % uint64(n)) }

func (s *source) word() uint64 {
	switch s.below(8) {
	case 0, 1:
		return 0
	case 2, 3:
		return all
	case 4:
		return 1 << s.below(64)
	case 5:
		return all >> s.below(64)
	}
	return s.next()
}

// size is a number of words: mostly few, sometimes as many as there may be.
func (s *source) size() int {
	switch s.below(10) {
	case 0:
		return api.MaxWords
	case 1:
		return api.MaxWords - s.below(3)
	case 2:
		return s.below(api.MaxWords + 1)
	}
	return s.below(5)
}

// exponent is mostly near 0 or near a bound.
func (s *source) exponent() int64 {
	switch s.below(8) {
	case 0:
		return int64(s.below(100)) - api.MaxExp
	case 1:
		return api.MaxExp - int64(s.below(100))
	case 2:
		return int64(s.below(2*api.MaxExp+1)) - api.MaxExp
	case 3:
		return int64(s.below(2*maxBits+1)) - maxBits
	}
	return int64(s.below(300)) - 150
}

// number is valid.
func (s *source) number() api.Num {
	w := make([]uint64, s.size())
	if len(w) == 0 {
		return api.Num{}
	}
	for i := range w {
		w[i] = s.word()
	}
	w[0] |= 1
	w[len(w)-1] |= 1 << s.below(64)
	return api.Num{Neg: s.below(2) == 0, Exp: s.exponent(), W: w}
}

// dyadic is m times 2^exp.
type dyadic struct {
	m   *big.Int
	exp int64
}

// valueOf goes through bytes, so that it hangs on no word size of math/big.
func valueOf(x api.Num) dyadic {
	text := make([]byte, 8*len(x.W))
	for i, w := range x.W {
		for k := range 8 {
			text[len(text)-1-8*i-k] = byte(w >> (8 * k))
		}
	}
	m := new(big.Int).SetBytes(text)
	if x.Neg {
		m.Neg(m)
	}
	return dyadic{m, x.Exp}
}

// at is the natural number, with its sign, that d has for a lesser exponent.
func (d dyadic) at(exp int64) *big.Int {
	return new(big.Int).Lsh(d.m, uint(d.exp-exp))
}

func (d dyadic) with(e dyadic, do func(z, x, y *big.Int) *big.Int) dyadic {
	exp := min(d.exp, e.exp)
	return dyadic{do(new(big.Int), d.at(exp), e.at(exp)), exp}
}

func (d dyadic) times(e dyadic) dyadic {
	return dyadic{new(big.Int).Mul(d.m, e.m), d.exp + e.exp}
}

// isNumber reports whether a valid number has the value.
func (d dyadic) isNumber() bool {
	zeros := int(d.m.TrailingZeroBits())
	exp := d.exp + int64(zeros)
	return d.m.Sign() == 0 || d.m.BitLen()-zeros <= maxBits && -api.MaxExp <= exp && exp <= api.MaxExp
}

func (d dyadic) equals(x api.Num) bool {
	difference := d.with(valueOf(x), (*big.Int).Sub)
	return difference.m.Sign() == 0
}

func expect(t *testing.T, what string, x api.Num, err api.Errno, want dyadic, args ...api.Num) {
	t.Helper()
	switch {
	case !want.isNumber():
		if err != api.ErrOver || !isZero(x) {
			t.Fatalf("%s of %v: %v, %d, not ErrOver", what, args, x, err)
		}
	case err != api.OK || !Right(x) || !want.equals(x):
		t.Fatalf("%s of %v: %v, %d", what, args, x, err)
	}
}

func checkOne(t *testing.T, x api.Num, k int64) {
	t.Helper()
	v := valueOf(x)
	x2, err := Scale(x, k)
	expect(t, "Scale", x2, err, dyadic{v.m, v.exp + k}, x)
	expect(t, "Neg", Neg(x), api.OK, dyadic{new(big.Int).Neg(v.m), v.exp}, x)
	expect(t, "Abs", Abs(x), api.OK, dyadic{new(big.Int).Abs(v.m), v.exp}, x)
	if Sign(x) != v.m.Sign() {
		t.Fatalf("Sign(%v) = %d", x, Sign(x))
	}
}

func checkTwo(t *testing.T, a, b api.Num) {
	t.Helper()
	v, w := valueOf(a), valueOf(b)
	difference := v.with(w, (*big.Int).Sub)
	x, err := Add(a, b)
	expect(t, "Add", x, err, v.with(w, (*big.Int).Add), a, b)
	x, err = Sub(a, b)
	expect(t, "Sub", x, err, difference, a, b)
	x, err = Mul(a, b)
	expect(t, "Mul", x, err, v.times(w), a, b)
	if Cmp(a, b) != difference.m.Sign() {
		t.Fatalf("Cmp(%v, %v) = %d", a, b, Cmp(a, b))
	}
}

func TestExact(t *testing.T) {
	s := source(1)
	for range 10000 {
		a, b := s.number(), s.number()
		checkOne(t, a, s.exponent())
		checkTwo(t, a, b)
	}
}

// TestExactNear takes numbers that differ by little, so that a difference
// loses its high bits, a sum its low ones, and a comparison needs all words.
func TestExactNear(t *testing.T) {
	s := source(2)
	for range 5000 {
		a := s.number()
		if a.W == nil {
			continue
		}
		b := api.Num{Neg: s.below(2) == 0, Exp: a.Exp, W: append([]uint64{}, a.W...)}
		place := s.below(64 * len(b.W))
		b.W[place/64] ^= 1 << (place % 64)
		b, err := Make(b.Neg, b.W, b.Exp)
		if err == api.OK {
			checkTwo(t, a, b)
			checkTwo(t, b, a)
		}
	}
}

// TestExactMake gives words and exponents that are no valid number's.
func TestExactMake(t *testing.T) {
	s := source(3)
	for range 10000 {
		w := make([]uint64, s.size()+s.below(4))
		for i := range w {
			w[i] = s.word()
		}
		if s.below(4) == 0 {
			clear(w[:s.below(len(w)+1)])
		}
		given := api.Num{Neg: s.below(2) == 0, Exp: s.exponent() + int64(s.below(201)) - 100, W: w}
		x, err := Make(given.Neg, given.W, given.Exp)
		expect(t, "Make", x, err, valueOf(given), given)
	}
}

// TestExactBounds crosses the numbers at which the limits are met.
func TestExactBounds(t *testing.T) {
	for _, a := range rising() {
		for _, b := range rising() {
			checkTwo(t, a, b)
		}
		for _, k := range []int64{0, 1, -1, 64, -64, api.MaxExp, -api.MaxExp, 2 * api.MaxExp, -2 * api.MaxExp} {
			checkOne(t, a, k)
		}
	}
}

// TestLaws: what holds for exact results only, wherever they are valid numbers.
func TestLaws(t *testing.T) {
	s := source(4)
	seen := 0
	for range 3000 {
		a, b, c := s.number(), s.number(), s.number()
		sum, err := Add(a, b)
		if err != api.OK {
			continue
		}
		if back, err := Sub(sum, b); err != api.OK || !equal(back, a) {
			t.Fatalf("a + b - b is %v, %d, not %v", back, err, a)
		}
		left, err1 := Mul(sum, c)
		ac, err2 := Mul(a, c)
		bc, err3 := Mul(b, c)
		right, err4 := Add(ac, bc)
		if err1 != api.OK || err2 != api.OK || err3 != api.OK {
			continue
		}
		seen++
		if err4 != api.OK || !equal(left, right) {
			t.Fatalf("(a + b)c is %v, ac + bc is %v, %d", left, right, err4)
		}
	}
	if seen < 100 {
		t.Errorf("only %d products of sums", seen)
	}
}
