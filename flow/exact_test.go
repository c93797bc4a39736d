package flow

import (
	"fmt"
	"math/big"
	"slices"

	"fathomline/api"
)

// P15.1 and P15.2: the results are those of another implementation, which forms
// each exact end by math/big and rounds it. Of the program it uses package api
// alone.

// dyadic is m times 2^exp.
type dyadic struct {
	m   *big.Int
	exp int64
}

func whole(n int64) dyadic { return dyadic{big.NewInt(n), 0} }

// valueOf goes through bytes, so that it hangs on no word size of math/big.
func valueOf(x api.Num) dyadic {
	text := make([]byte, 8*len(x.W))
	for i, w := range x.W {
		for k := range 8 {
			text[len(text)-1-8*i-k] = byte(w >> (8 * k))
		}
	}
	m := new(big.Int).SetBytes(text)
	if x.Neg {
		m.Neg(m)
	}
	return dyadic{m, x.Exp}
}

// at is the integer that d has for an exponent that is not greater.
func (d dyadic) at(exp int64) *big.Int {
	return new(big.Int).Lsh(d.m, uint(d.exp-exp))
}

func (d dyadic) plus(e dyadic) dyadic {
	if d.m.Sign() == 0 {
		return e
	}
	if e.m.Sign() == 0 {
		return d
	}
	exp := min(d.exp, e.exp)
	return dyadic{new(big.Int).Add(d.at(exp), e.at(exp)), exp}
}

func (d dyadic) times(e dyadic) dyadic {
	return dyadic{new(big.Int).Mul(d.m, e.m), d.exp + e.exp}
}

func (d dyadic) cmp(e dyadic) int {
	if d.m.Sign() != e.m.Sign() || d.m.Sign() == 0 {
		return d.m.Sign() - e.m.Sign()
	}
	exp := min(d.exp, e.exp)
	return d.at(exp).Cmp(e.at(exp))
}

// over is a value that lies where d / n does among all numbers of up to MaxPrec
// bits: between the same two, or on the same one. Floors and the last bit, which
// is 1 behind what has no end, tell so for either sign. n is positive.
func (d dyadic) over(n int64) dyadic {
	places := uint(big.NewInt(n).BitLen() + api.MaxPrec + 2)
	m, rest := new(big.Int).DivMod(new(big.Int).Lsh(d.m, places), big.NewInt(n), new(big.Int))
	if rest.Sign() == 0 {
		return dyadic{m, d.exp - int64(places)}
	}
	m.Lsh(m, 1)
	m.Add(m, big.NewInt(1))
	return dyadic{m, d.exp - int64(places) - 1}
}

// rounded is d rounded to prec bits.
func (d dyadic) rounded(prec int, up bool) dyadic {
	low := d.m.BitLen() - prec
	if low <= 0 {
		return d
	}
	m := new(big.Int).Set(d.m)
	if up {
		m.Neg(m)
	}
	m.Rsh(m, uint(low)) // goes down for either sign
	if up {
		m.Neg(m)
	}
	return dyadic{m, d.exp + int64(low)}
}

// number is the valid number with the value, or false.
func (d dyadic) number() (api.Num, bool) {
	if d.m.Sign() == 0 {
		return api.Num{}, true
	}
	zeros := d.m.TrailingZeroBits()
	m := new(big.Int).Rsh(new(big.Int).Abs(d.m), zeros)
	exp := d.exp + int64(zeros)
	if m.BitLen() > maxBits || exp < -maxExp || exp > maxExp {
		return api.Num{}, false
	}
	x := api.Num{Neg: d.m.Sign() < 0, Exp: exp}
	for mask := new(big.Int).SetUint64(all); m.Sign() > 0; m.Rsh(m, 64) {
		x.W = append(x.W, new(big.Int).And(m, mask).Uint64())
	}
	return x, true
}

// isNumber tells what P2.1 says of valid numbers.
func isNumber(x api.Num) bool {
	if x.Exp < -maxExp || x.Exp > maxExp {
		return false
	}
	y, ok := valueOf(x).number()
	return ok && equal(x, y)
}

// isIv tells what P5.1 says of valid intervals.
func isIv(a api.Iv) bool {
	return isNumber(a.Lo) && isNumber(a.Hi) && valueOf(a.Lo).cmp(valueOf(a.Hi)) <= 0
}

// isBox tells what P6.1 says of boxes.
func isBox(b []api.Iv) bool {
	return len(b) >= 1 && len(b) <= api.MaxDim && !slices.ContainsFunc(b, func(a api.Iv) bool { return !isIv(a) })
}

// isPoly tells what P10.1 says of polynomials of n variables.
func isPoly(p []api.Mono, n int) bool {
	for i, m := range p {
		sum := 0
		for _, k := range m.E {
			if k < 0 || k > api.MaxDeg {
				return false
			}
			sum += k
		}
		if len(m.E) != n || sum > api.MaxDeg || !isNumber(m.C) || len(m.C.W) == 0 {
			return false
		}
		if i > 0 && slices.Compare(p[i-1].E, m.E) <= 0 {
			return false
		}
	}
	return n >= 1 && n <= api.MaxDim && len(p) <= api.MaxTerms
}

// isField tells what P11.1 says of fields.
func isField(f [][]api.Mono) bool {
	return len(f) > 0 && !slices.ContainsFunc(f, func(p []api.Mono) bool { return !isPoly(p, len(f)) })
}

// isSeries tells what P14.3 says of the series that are summed.
func isSeries(a []api.Iv) bool {
	return len(a) >= 1 && len(a) <= api.MaxOrder+1 && !slices.ContainsFunc(a, func(c api.Iv) bool { return !isIv(c) })
}

func isPrec(prec int) bool { return prec >= api.MinPrec && prec <= api.MaxPrec }

// span is from lo to hi.
type span struct{ lo, hi dyadic }

func pointAt(d dyadic) span { return span{d, d} }

func spanIn(a api.Iv) span { return span{valueOf(a.Lo), valueOf(a.Hi)} }

// interval is valid, as are all results of operations.
func (s span) interval() api.Iv {
	lo, _ := s.lo.number()
	hi, _ := s.hi.number()
	return from(lo, hi)
}

// way is how a result is computed: the zero value is that of the chapter, and
// each field is one thing done otherwise.
type way struct {
	once, factor, apart, ranged, rounded, turned, alone, middle bool
}

// calc performs operations to prec bits until one of them fails.
type calc struct {
	prec int
	err  api.Errno
	what string // the operation that failed
	name string // of what is computed
}

// out is the span from lo to hi, rounded outward, if nothing has failed yet.
func (c *calc) out(lo, hi dyadic, what string) span {
	s := span{lo.rounded(c.prec, false), hi.rounded(c.prec, true)}
	_, low := s.lo.number()
	_, high := s.hi.number()
	if c.err == api.OK && !(low && high) {
		c.err, c.what = api.ErrOver, what+c.name
	}
	if c.err != api.OK {
		return pointAt(whole(0))
	}
	return s
}

func (c *calc) add(a, b span) span {
	return c.out(a.lo.plus(b.lo), a.hi.plus(b.hi), "sum")
}

func (c *calc) mul(a, b span) span {
	l := []dyadic{a.lo.times(b.lo), a.lo.times(b.hi), a.hi.times(b.lo), a.hi.times(b.hi)}
	return c.out(slices.MinFunc(l, dyadic.cmp), slices.MaxFunc(l, dyadic.cmp), "product")
}

func (c *calc) div(a span, n int) span {
	return c.out(a.lo.over(int64(n)), a.hi.over(int64(n)), "quotient")
}

// power is iv.Pow.
func (c *calc) power(a span, k int) span {
	lo, hi := whole(1), whole(1)
	for range k {
		lo, hi = lo.times(a.lo), hi.times(a.hi)
	}
	if lo.cmp(hi) > 0 {
		lo, hi = hi, lo
	}
	if k%2 == 0 && k > 0 && a.lo.m.Sign() < 0 && a.hi.m.Sign() > 0 {
		lo = whole(0)
	}
	return c.out(lo, hi, "power")
}

// times are the coefficients from 0 to k of the product of a and b.
func (c *calc) times(a, b []span, k int) []span {
	l := make([]span, k+1)
	for m := range l {
		for i := range m + 1 {
			p := c.mul(a[i], b[m-i])
			if i > 0 {
				p = c.add(l[m], p)
			}
			l[m] = p
		}
	}
	return l
}

// along are the coefficients from 0 to k of m applied to xs.
func (c *calc) along(m api.Mono, xs [][]span, k int) []span {
	s := same(k+1, pointAt(whole(0)))
	s[0] = pointAt(valueOf(m.C))
	for i, e := range m.E {
		for range e {
			s = c.times(s, xs[i], k)
		}
	}
	return s
}

// value is coefficient k of p applied to xs.
func (c *calc) value(w way, p []api.Mono, xs [][]span, k int) span {
	sum := pointAt(whole(0))
	for _, m := range p {
		v := c.along(m, xs, k)[k]
		if w.ranged && k == 0 {
			v = pointAt(valueOf(m.C))
			for i, e := range m.E {
				v = c.mul(v, c.power(xs[i][0], e))
			}
		}
		if w.apart {
			v = c.div(v, k+1)
		}
		sum = c.add(sum, v)
	}
	return sum
}

// next is coefficient k + 1 of the variable whose polynomial is p.
func (c *calc) next(w way, p []api.Mono, xs [][]span, k int) span {
	switch {
	case w.once:
		long := &calc{prec: api.MaxPrec}
		return c.div(long.value(w, p, xs, k), k+1)
	case w.factor:
		return c.mul(c.value(w, p, xs, k), c.div(pointAt(whole(1)), k+1))
	case w.apart:
		return c.value(w, p, xs, k)
	}
	return c.div(c.value(w, p, xs, k), k+1)
}

func (c *calc) starts(w way, x []api.Iv) [][]span {
	var l [][]span
	for _, a := range x {
		s := spanIn(a)
		switch {
		case w.rounded:
			s = c.add(s, pointAt(whole(0)))
		case w.middle:
			s = pointAt(s.lo.plus(s.hi).times(dyadic{big.NewInt(1), -1}))
		}
		l = append(l, []span{s})
	}
	return l
}

// series is Series by the words of P15.1.
func (c *calc) series(w way, f [][]api.Mono, x []api.Iv, order int) [][]span {
	l := c.starts(w, x)
	for k := range order {
		for i := range f {
			c.name = fmt.Sprintf(" in coefficient %d of variable %d", k+1, i)
			p, xs := f[i], l
			if w.turned {
				p = f[(i+1)%len(f)]
			}
			if w.alone { // of the other variables only where they start
				xs = make([][]span, len(l))
				for j := range xs {
					xs[j] = append(l[j][:1:1], same(k, pointAt(whole(0)))...)
				}
				xs[i] = l[i]
			}
			next := c.next(w, p, xs, k)
			if c.err != api.OK {
				return nil
			}
			l[i] = append(l[i], next)
		}
	}
	return l
}

// seriesBy is Series, computed in one of the ways.
func seriesBy(w way, f [][]api.Mono, x []api.Iv, order, prec int) ([][]api.Iv, api.Errno) {
	l, err, _ := seriesOf(w, f, x, order, prec)
	return l, err
}

// seriesOf also tells which operation fails.
func seriesOf(w way, f [][]api.Mono, x []api.Iv, order, prec int) ([][]api.Iv, api.Errno, string) {
	c := &calc{prec: prec}
	var l [][]api.Iv
	for _, spans := range c.series(w, f, x, order) {
		var a []api.Iv
		for _, s := range spans {
			a = append(a, s.interval())
		}
		l = append(l, a)
	}
	return l, c.err, c.what
}

func wantSeries(f [][]api.Mono, x []api.Iv, order, prec int) ([][]api.Iv, api.Errno) {
	if !isField(f) || !isBox(x) || len(x) != len(f) || order < 0 || order > api.MaxOrder || !isPrec(prec) {
		return nil, api.ErrForm
	}
	return seriesBy(way{}, f, x, order, prec)
}

// wantSum is Sum by the words of P15.2 and P14.3.
func wantSum(l [][]api.Iv, h api.Iv, prec int) ([]api.Iv, api.Errno) {
	if len(l) < 1 || len(l) > api.MaxDim || !isIv(h) || !isPrec(prec) {
		return nil, api.ErrForm
	}
	if slices.ContainsFunc(l, func(a []api.Iv) bool { return !isSeries(a) }) {
		return nil, api.ErrForm
	}
	c := &calc{prec: prec}
	var values []api.Iv
	for _, a := range l {
		v := spanIn(a[len(a)-1])
		for i := len(a) - 2; i >= 0; i-- {
			v = c.add(c.mul(v, spanIn(h)), spanIn(a[i]))
		}
		values = append(values, v.interval())
	}
	if c.err != api.OK {
		return nil, c.err
	}
	return values, api.OK
}
