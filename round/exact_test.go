package round

import (
	"math/big"
	"testing"

	"fathomline/api"
	"fathomline/num"
)

// P3.2 and P3.3: the results are those of another implementation, which knows
// nothing of limits and rounds by divisions of signed integers. It decides too
// whether a valid number has the rounded value.

// dyadic is m times 2^exp.
type dyadic struct {
	m   *big.Int
	exp int64
}

func one() dyadic { return dyadic{big.NewInt(1), 0} }

// valueOf goes through bytes, so that it hangs on no word size of math/big.
func valueOf(x api.Num) dyadic {
	text := make([]byte, 8*len(x.W))
	for i, w := range x.W {
		for k := range 8 {
			text[len(text)-1-8*i-k] = byte(w >> (8 * k))
		}
	}
	m := new(big.Int).SetBytes(text)
	if x.Neg {
		m.Neg(m)
	}
	return dyadic{m, x.Exp}
}

// outcomeOf is the valid number with the value, or ErrOver.
func outcomeOf(d dyadic) outcome {
	if d.m.Sign() == 0 {
		return is(api.Num{})
	}
	zeros := d.m.TrailingZeroBits()
	m := new(big.Int).Abs(d.m)
	m.Rsh(m, zeros)
	exp := d.exp + int64(zeros)
	if m.BitLen() > maxBits || exp < -maxExp || exp > maxExp {
		return over()
	}
	w := make([]uint64, (m.BitLen()+63)/64)
	for i, b := range m.FillBytes(make([]byte, 8*len(w))) {
		w[len(w)-1-i/8] |= uint64(b) << (56 - 8*(i%8))
	}
	return is(api.Num{Neg: d.m.Sign() < 0, Exp: exp, W: w})
}

// at is the integer that d has for an exponent that is not greater.
func (d dyadic) at(exp int64) *big.Int {
	return new(big.Int).Lsh(d.m, uint(d.exp-exp))
}

func (d dyadic) plus(e dyadic) dyadic {
	exp := min(d.exp, e.exp)
	return dyadic{new(big.Int).Add(d.at(exp), e.at(exp)), exp}
}

func (d dyadic) minus() dyadic { return dyadic{new(big.Int).Neg(d.m), d.exp} }

func (d dyadic) size() dyadic { return dyadic{new(big.Int).Abs(d.m), d.exp} }

func (d dyadic) times(e dyadic) dyadic {
	return dyadic{new(big.Int).Mul(d.m, e.m), d.exp + e.exp}
}

func (d dyadic) cmp(e dyadic) int { return d.plus(e.minus()).m.Sign() }

// parts are integers whose quotient is n / d divided by 2^place; the second
// one is above 0.
func parts(n, d *big.Int, place int) (*big.Int, *big.Int) {
	x, y := new(big.Int).Set(n), new(big.Int).Set(d)
	if y.Sign() < 0 {
		x.Neg(x)
		y.Neg(y)
	}
	if place > 0 {
		return x, y.Lsh(y, uint(place))
	}
	return x.Lsh(x, uint(-place)), y
}

// rounded is n / d rounded to prec bits: the quotient of both is a multiple of
// a power of two, for which it is from 2^(prec-1) to 2^prec.
func rounded(n, d dyadic, prec int, up bool) outcome {
	if n.m.Sign() == 0 {
		return is(api.Num{})
	}
	place := n.m.BitLen() - d.m.BitLen() - prec
	x, y := parts(n.m, d.m, place+prec)
	if x.CmpAbs(y) >= 0 {
		place++
	}
	x, y = parts(n.m, d.m, place)
	exp := n.exp - d.exp + int64(place)
	if up {
		floor := new(big.Int).Div(x.Neg(x), y)
		return outcomeOf(dyadic{floor.Neg(floor), exp})
	}
	return outcomeOf(dyadic{new(big.Int).Div(x, y), exp})
}

func roundedBoth(n, d dyadic, prec int) bounds {
	return bounds{rounded(n, d, prec, false), rounded(n, d, prec, true)}
}

// source yields the same words in every run.
type source uint64

func (s *source) next() uint64 {
	*s += 0x9e3779b97f4a7c15
	x := uint64(*s)
	x = (x ^ x>>30) * 0xbf58476d1ce4e5b9
	x = (x ^ x>>27) * 0x94d049bb133111eb
	return x ^ x>>31
}

func (s *source) below(n int) int { return int(s.next() % uint64(n)) }

func (s *source) word() uint64 {
	switch s.below(8) {
	case 0, 1:
		return 0
	case 2, 3:
		return all
	case 4:
		return 1 << s.below(64)
	case 5:
		return all >> s.below(64)
	}
	return s.next()
}

// size is a number of words: mostly few, sometimes as many as there may be.
func (s *source) size() int {
	switch s.below(12) {
	case 0:
		return api.MaxWords - s.below(3)
	case 1:
		return s.below(api.MaxWords + 1)
	}
	return s.below(6)
}

// exponent is mostly near 0, or near a bound so that results lie at it too.
func (s *source) exponent() int64 {
	switch s.below(8) {
	case 0:
		return int64(s.below(600)) - maxExp
	case 1:
		return maxExp - int64(s.below(600))
	case 2:
		return int64(s.below(2*maxExp+1)) - maxExp
	case 3:
		return int64(s.below(2*maxBits+1)) - maxBits
	}
	return int64(s.below(300)) - 150
}

// number is valid.
func (s *source) number() api.Num {
	w := make([]uint64, s.size())
	if len(w) == 0 {
		return api.Num{}
	}
	for i := range w {
		w[i] = s.word()
	}
	w[0] |= 1
	w[len(w)-1] |= 1
	if s.below(2) == 0 {
		w[len(w)-1] |= 1 << s.below(64)
	}
	return api.Num{Neg: s.below(2) == 0, Exp: s.exponent(), W: w}
}

// prec is in range, and often at a bound of it or of words.
func (s *source) prec() int {
	if s.below(2) == 0 {
		return inside()[s.below(len(inside()))]
	}
	return api.MinPrec + s.below(api.MaxPrec-api.MinPrec+1)
}

func checkAll(t *testing.T, a, b api.Num, prec int) {
	t.Helper()
	v, w := valueOf(a), valueOf(b)
	expect(t, "Fit", asOperation, a, b, prec, roundedBoth(v, one(), prec))
	expect(t, "Add", Add, a, b, prec, roundedBoth(v.plus(w), one(), prec))
	expect(t, "Sub", Sub, a, b, prec, roundedBoth(v.plus(w.minus()), one(), prec))
	expect(t, "Mul", Mul, a, b, prec, roundedBoth(v.times(w), one(), prec))
	if w.m.Sign() != 0 {
		expect(t, "Div", Div, a, b, prec, roundedBoth(v, w, prec))
	}
}

func TestAgainstIntegers(t *testing.T) {
	s := source(1)
	for range 5000 {
		checkAll(t, s.number(), s.number(), s.prec())
		if t.Failed() {
			return
		}
	}
}

// TestAgainstIntegersNear takes numbers that differ in few bits, so that
// differences lose their high bits and quotients are next to 1.
func TestAgainstIntegersNear(t *testing.T) {
	s := source(2)
	for range 3000 {
		a := s.number()
		b := api.Num{Neg: s.below(2) == 0 && len(a.W) > 0, Exp: a.Exp, W: append([]uint64{}, a.W...)}
		if len(b.W) > 0 {
			place := 1 + s.below(64*len(b.W)-1)
			b.W[place/64] ^= 1 << (place % 64)
		}
		if num.Right(b) {
			checkAll(t, a, b, s.prec())
			checkAll(t, b, a, s.prec())
		}
		if t.Failed() {
			return
		}
	}
}

// TestAgainstIntegersBounds crosses the numbers at which the limits are met.
func TestAgainstIntegersBounds(t *testing.T) {
	var numbers []api.Num
	for _, exp := range []int64{-maxExp, -maxExp + 1, -maxExp + 9, -300, -1, 0, 7, maxExp - 300, maxExp - 8, maxExp} {
		for _, x := range []api.Num{of(1, exp), of(3, exp), full(9, exp), wide(257, exp), full(maxBits, exp)} {
			numbers = append(numbers, x, minus(x))
		}
	}
	numbers = append(numbers, api.Num{})
	for _, a := range numbers {
		for i, b := range numbers {
			checkAll(t, a, b, []int{api.MinPrec, 64, api.MaxPrec}[i%3])
		}
	}
}

// P3.3

// isClose reports that the rounded value r is less than one unit of the last
// of prec places from n / d, and equal to it if it is 0.
func isClose(r, n, d dyadic, prec int) bool {
	if n.m.Sign() == 0 {
		return r.m.Sign() == 0
	}
	gap := r.times(d).plus(n.minus()).size()
	gap.exp += int64(prec - 1)
	return gap.cmp(n.size()) < 0
}

// hasBits reports that r is a number of prec bits.
func hasBits(r dyadic, prec int) bool {
	return r.m.BitLen()-int(r.m.TrailingZeroBits()) <= prec
}

// TestAround: the exact value is between the two rounded ones, which are of
// prec bits, close to it, and equal just if it is of prec bits itself.
func TestAround(t *testing.T) {
	s := source(3)
	seen := 0
	for range 4000 {
		a, b, prec := s.number(), s.number(), s.prec()
		v, w := valueOf(a), valueOf(b)
		for name, x := range map[string]struct{ n, d dyadic }{
			"Add": {v.plus(w), one()}, "Sub": {v.plus(w.minus()), one()}, "Mul": {v.times(w), one()}, "Div": {v, w},
		} {
			down, err1 := operations()[name](a, b, prec, false)
			up, err2 := operations()[name](a, b, prec, true)
			if err1 != api.OK || err2 != api.OK {
				continue
			}
			seen++
			n, d, low, high := x.n, x.d, valueOf(down), valueOf(up)
			if d.m.Sign() < 0 {
				n, d = n.minus(), d.minus()
			}
			if num.Cmp(down, up) > 0 || low.times(d).cmp(n) > 0 || high.times(d).cmp(n) < 0 {
				t.Fatalf("%s of %v, %v to %d bits is not from %v to %v", name, a, b, prec, down, up)
			}
			if !isClose(low, n, d, prec) || !isClose(high, n, d, prec) || !hasBits(low, prec) || !hasBits(high, prec) {
				t.Fatalf("%s of %v, %v to %d bits is not close to %v and %v", name, a, b, prec, down, up)
			}
			if equal(down, up) != (low.times(d).cmp(n) == 0) || equal(down, up) != (high.times(d).cmp(n) == 0) {
				t.Fatalf("%s of %v, %v to %d bits is %v and %v", name, a, b, prec, down, up)
			}
		}
	}
	if seen < 8000 {
		t.Errorf("only %d results that are numbers", seen)
	}
}

// TestOrder: rounding keeps the order of values, and a rounded value as it is.
func TestOrder(t *testing.T) {
	s := source(4)
	for range 3000 {
		a, b, prec := s.number(), s.number(), s.prec()
		if num.Cmp(a, b) > 0 {
			a, b = b, a
		}
		for _, up := range directions() {
			x, err1 := Fit(a, prec, up)
			y, err2 := Fit(b, prec, up)
			if err1 != api.OK || err2 != api.OK {
				continue
			}
			if num.Cmp(x, y) > 0 {
				t.Fatalf("Fit to %d bits, up %v: %v, %v change places", prec, up, a, b)
			}
			expectFit(t, x, prec, bounds{is(x), is(x)})
		}
	}
}
