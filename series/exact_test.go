package series

import (
	"math/big"
	"slices"
	"testing"

	"fathomline/api"
)

// P14.4: exact coefficients are computed by math/big, which knows nothing of
// limits and also tells which arguments are valid. Bit by bit the results are
// compared with those of coefBy, ofBy and sumBy, which perform package iv's
// operations.

// dyadic is m times 2^exp.
type dyadic struct {
	m   *big.Int
	exp int64
}

func whole(n int64) dyadic { return dyadic{big.NewInt(n), 0} }

// valueOf goes through bytes, so that it hangs on no word size of math/big.
func valueOf(x api.Num) dyadic {
	text := make([]byte, 8*len(x.W))
	for i, w := range x.W {
		for k := range 8 {
			text[len(text)-1-8*i-k] = byte(w >> (8 * k))
		}
	}
	m := new(big.Int).SetBytes(text)
	if x.Neg {
		m.Neg(m)
	}
	return dyadic{m, x.Exp}
}

// at is the integer that d has for an exponent that is not greater.
func (d dyadic) at(exp int64) *big.Int {
	return new(big.Int).Lsh(d.m, uint(d.exp-exp))
}

func (d dyadic) plus(e dyadic) dyadic {
	if d.m.Sign() == 0 {
		return e
	}
	if e.m.Sign() == 0 {
		return d
	}
	exp := min(d.exp, e.exp)
	return dyadic{new(big.Int).Add(d.at(exp), e.at(exp)), exp}
}

func (d dyadic) times(e dyadic) dyadic {
	return dyadic{new(big.Int).Mul(d.m, e.m), d.exp + e.exp}
}

func (d dyadic) cmp(e dyadic) int {
	if d.m.Sign() != e.m.Sign() || d.m.Sign() == 0 {
		return d.m.Sign() - e.m.Sign()
	}
	exp := min(d.exp, e.exp)
	return d.at(exp).Cmp(e.at(exp))
}

// number is the valid number with the value, or false.
func (d dyadic) number() (api.Num, bool) {
	if d.m.Sign() == 0 {
		return api.Num{}, true
	}
	zeros := d.m.TrailingZeroBits()
	m := new(big.Int).Rsh(new(big.Int).Abs(d.m), zeros)
	exp := d.exp + int64(zeros)
	if m.BitLen() > maxBits || exp < -maxExp || exp > maxExp {
		return api.Num{}, false
	}
	x := api.Num{Neg: d.m.Sign() < 0, Exp: exp}
	for mask := new(big.Int).SetUint64(all); m.Sign() > 0; m.Rsh(m, 64) {
		x.W = append(x.W, new(big.Int).And(m, mask).Uint64())
	}
	return x, true
}

// isNumber tells what P2.1 says of valid numbers.
func isNumber(x api.Num) bool {
	y, ok := valueOf(x).number()
	return ok && equal(x, y)
}

// isIv tells what P5.1 says of valid intervals.
func isIv(a api.Iv) bool {
	return isNumber(a.Lo) && isNumber(a.Hi) && valueOf(a.Lo).cmp(valueOf(a.Hi)) <= 0
}

// isPoly tells what P10.1 says of polynomials of n variables.
func isPoly(p []api.Mono, n int) bool {
	for i, m := range p {
		sum := 0
		for _, k := range m.E {
			if k < 0 || k > api.MaxDeg {
				return false
			}
			sum += k
		}
		if len(m.E) != n || sum > api.MaxDeg || !isNumber(m.C) || len(m.C.W) == 0 {
			return false
		}
		if i > 0 && slices.Compare(p[i-1].E, m.E) <= 0 {
			return false
		}
	}
	return n >= 1 && n <= api.MaxDim && len(p) <= api.MaxTerms
}

// reachesTo reports whether a is a series of more than k coefficients, of which
// those from 0 to k are valid.
func reachesTo(a []api.Iv, k int) bool {
	for i := range k + 1 {
		if i >= len(a) || !isIv(a[i]) {
			return false
		}
	}
	return true
}

func inRange(k, prec int) bool {
	return k >= 0 && k <= api.MaxOrder && prec >= api.MinPrec && prec <= api.MaxPrec
}

func wantCoef(a, b []api.Iv, k, prec int) (api.Iv, api.Errno) {
	if !inRange(k, prec) || !reachesTo(a, k) || !reachesTo(b, k) {
		return api.Iv{}, api.ErrForm
	}
	return coefBy(way{}, a, b, k, prec)
}

func wantOf(p []api.Mono, xs [][]api.Iv, k, prec int) (api.Iv, api.Errno) {
	if !inRange(k, prec) || !isPoly(p, len(xs)) {
		return api.Iv{}, api.ErrForm
	}
	for _, x := range xs {
		if !reachesTo(x, k) {
			return api.Iv{}, api.ErrForm
		}
	}
	return ofBy(way{}, p, xs, k, prec)
}

func wantSum(a []api.Iv, h api.Iv, prec int) (api.Iv, api.Errno) {
	if !inRange(len(a)-1, prec) || !reachesTo(a, len(a)-1) || !isIv(h) {
		return api.Iv{}, api.ErrForm
	}
	return sumBy(way{}, a, h, prec)
}

// exactTimes are as many coefficients of the product of a and b as a has.
func exactTimes(a, b []dyadic) []dyadic {
	l := slices.Repeat([]dyadic{whole(0)}, len(a))
	for i, x := range a {
		for j, y := range b[:len(a)-i] {
			l[i+j] = l[i+j].plus(x.times(y))
		}
	}
	return l
}

// exactOf are as many coefficients of p applied to xs as these have.
func exactOf(p []api.Mono, xs [][]dyadic) []dyadic {
	l := slices.Repeat([]dyadic{whole(0)}, len(xs[0]))
	for _, m := range p {
		// From the last variable on, and the coefficient last.
		s := slices.Repeat([]dyadic{whole(0)}, len(l))
		s[0] = whole(1)
		for i := len(xs) - 1; i >= 0; i-- {
			for range m.E[i] {
				s = exactTimes(s, xs[i])
			}
		}
		for i, c := range s {
			l[i] = l[i].plus(c.times(valueOf(m.C)))
		}
	}
	return l
}

// exactSum adds the coefficients times powers of h.
func exactSum(a []dyadic, h dyadic) dyadic {
	sum, power := whole(0), whole(1)
	for _, c := range a {
		sum, power = sum.plus(c.times(power)), power.times(h)
	}
	return sum
}

// source yields the same words in every run.
type source uint64

func (s *source) next() uint64 {
	*s += 0x9e3779b97f4a7c15
	x := uint64(*s)
	x = (x ^ x>>30) * 0xbf58476d1ce4e5b9
	x = (x ^ x>>27) * 0x94d049bb133111eb
	return x ^ x>>31
}

func (s *source) below(n int) int { return int(s.next() % uint64(n)) }

// number is valid, and none if kind is 0. Otherwise it is near 1, or of any
// size and at the bounds of exponents if kind is 3 and above.
func (s *source) number(kind int) api.Num {
	switch kind {
	case 0:
		l := []api.Num{{Neg: true}, {Exp: 1}, {W: []uint64{0}}, {W: []uint64{1, 0}}, of(2, 0), wide(maxBits+1, 0), of(1, maxExp+1), of(-1, -maxExp-1)}
		return l[s.below(len(l))]
	case 1:
		return odd(int64(s.below(9))-4, int64(s.below(3)))
	case 2:
		return odd(int64(s.below(1<<16))-1<<15, -int64(s.below(24)))
	}
	size := 1 + s.below(3)
	if s.below(3) == 0 {
		size = api.MaxWords / (1 + s.below(8))
	}
	w := make([]uint64, size)
	for i := range w {
		w[i] = s.next()
		if s.below(2) == 0 {
			w[i] = all
		}
	}
	w[0] |= 1
	w[size-1] = w[size-1]>>s.below(64) | 1
	exp := int64(s.below(300)) - 150
	switch s.below(8) {
	case 0:
		exp = maxExp - int64(s.below(3))
	case 1:
		exp = int64(s.below(3)) - maxExp
	case 2:
		exp = int64(s.below(2*maxExp/8)) - maxExp/8
	}
	return api.Num{Neg: s.below(2) == 0, Exp: exp, W: w}
}

// interval is valid if kind is not 0; it has numbers of the kind.
func (s *source) interval(kind int) api.Iv {
	x, y := s.number(kind), s.number(kind)
	if kind == 0 {
		switch s.below(3) {
		case 0:
			return from(of(5, 0), of(3, 0))
		case 1:
			return from(x, of(1, maxExp))
		}
		return from(of(-1, maxExp), y)
	}
	if valueOf(x).cmp(valueOf(y)) > 0 {
		x, y = y, x
	}
	switch s.below(8) {
	case 0:
		return point(x)
	case 1:
		if x.Neg {
			return from(x, api.Num{})
		}
	case 2:
		return api.Iv{}
	}
	return from(x, y)
}

// value is mostly valid and of ordinary size.
func (s *source) value() api.Iv {
	switch s.below(20) {
	case 0:
		return s.interval(0)
	case 1, 2:
		return s.interval(3)
	}
	return s.interval(1 + s.below(2))
}

// series has intervals of ordinary size, one of which may be of any size.
func (s *source) series(length int) []api.Iv {
	a := make([]api.Iv, length)
	for i := range a {
		a[i] = s.interval(1 + s.below(2))
	}
	if length > 0 && s.below(2) == 0 {
		a[s.below(length)] = s.interval(3)
	}
	return a
}

// flawed is mostly a series of more than k coefficients.
func (s *source) flawed(k int) []api.Iv {
	length := max(0, k+1+s.below(3))
	if s.below(12) == 0 {
		length = s.below(api.MaxOrder + 3)
	}
	a := s.series(length)
	if length > 0 && s.below(16) == 0 {
		a[s.below(length)] = s.interval(0)
	}
	return a
}

// poly is a polynomial of n variables.
func (s *source) poly(n, terms, degree int) []api.Mono {
	var p []api.Mono
	l := exps(n, degree)
	for _, e := range l {
		if len(p) < api.MaxTerms && s.below(len(l)) < terms {
			c := s.number(1 + s.below(20)/19 + s.below(2))
			if len(c.W) > 0 {
				p = append(p, term(c, e...))
			}
		}
	}
	return p
}

func (s *source) prec() int {
	switch s.below(40) {
	case 0:
		return api.MinPrec - 1
	case 1:
		return api.MaxPrec + 1
	}
	if s.below(2) == 0 {
		return api.MinPrec + s.below(4)
	}
	return api.MinPrec + s.below(api.MaxPrec-api.MinPrec+1)
}

// order is mostly in range.
func (s *source) order() int {
	if s.below(20) == 0 {
		return noOrders()[s.below(4)]
	}
	return s.below(api.MaxOrder+1) / (1 + s.below(3))
}

// counts are how often each result occurred.
type counts map[api.Errno]int

// enough expects each result at least so often.
func (c counts) enough(t *testing.T, least int) {
	t.Helper()
	for _, err := range []api.Errno{api.OK, api.ErrForm, api.ErrOver} {
		if c[err] < least {
			t.Errorf("only %d results with error %d", c[err], err)
		}
	}
}

func TestCoefAgainstReference(t *testing.T) {
	s, seen := source(1), counts{}
	for range 6000 {
		k, prec := s.order(), s.prec()
		a, b := s.flawed(k), s.flawed(k)
		want, wantErr := wantCoef(a, b, k, prec)
		checkCoef(t, a, b, k, prec, want, wantErr)
		seen[wantErr]++
		if t.Failed() {
			return
		}
	}
	seen.enough(t, 500)
}

func TestOfAgainstReference(t *testing.T) {
	s, seen := source(2), counts{}
	for range 3000 {
		n, k, prec := 1+s.below(api.MaxDim), s.order(), s.prec()
		p := s.poly(n, 1+s.below(6), 1+s.below(api.MaxDeg))
		if len(p) > 1 && s.below(20) == 0 {
			p[0], p[1] = p[1], p[0]
		}
		var xs [][]api.Iv
		for range n {
			xs = append(xs, s.flawed(k))
		}
		if s.below(20) == 0 {
			xs = append(xs, s.flawed(k))
		}
		want, wantErr := wantOf(p, xs, k, prec)
		checkOf(t, p, xs, k, prec, want, wantErr)
		seen[wantErr]++
		if t.Failed() {
			return
		}
	}
	seen.enough(t, 300)
}

func TestSumAgainstReference(t *testing.T) {
	s, seen := source(3), counts{}
	for range 12000 {
		a, h, prec := s.flawed(s.below(api.MaxOrder+2)), s.value(), s.prec()
		want, wantErr := wantSum(a, h, prec)
		checkSum(t, a, h, prec, want, wantErr)
		seen[wantErr]++
		if t.Failed() {
			return
		}
	}
	seen.enough(t, 500)
}

func within(d dyadic, a api.Iv) bool {
	return valueOf(a.Lo).cmp(d) <= 0 && d.cmp(valueOf(a.Hi)) <= 0
}

// between is a number in a: an end, or one that cuts a into parts.
func (s *source) between(a api.Iv) dyadic {
	if s.below(2) == 0 {
		return valueOf([]api.Num{a.Lo, a.Hi}[s.below(2)])
	}
	part := int64(s.below(9))
	return valueOf(a.Lo).times(dyadic{big.NewInt(8 - part), -3}).plus(valueOf(a.Hi).times(dyadic{big.NewInt(part), -3}))
}

// from has a number in each of the first k + 1 coefficients.
func (s *source) from(a []api.Iv, k int) []dyadic {
	var l []dyadic
	for _, c := range a[:k+1] {
		l = append(l, s.between(c))
	}
	return l
}

// contained are how often a result contained what it must, and how often this
// was at one of its ends.
type contained struct{ seen, tight int }

func (c *contained) has(t *testing.T, d dyadic, a api.Iv, what string) {
	t.Helper()
	c.seen++
	if !within(d, a) {
		t.Fatalf("%s: %s has not %v times 2^%d", what, ivText(a), d.m, d.exp)
	}
	if d.cmp(valueOf(a.Lo)) == 0 || d.cmp(valueOf(a.Hi)) == 0 {
		c.tight++
	}
}

func (c *contained) enough(t *testing.T, seen, tight int) {
	t.Helper()
	if c.seen < seen || c.tight < tight {
		t.Errorf("only %d values, and %d at ends", c.seen, c.tight)
	}
}

func TestCoefContains(t *testing.T) {
	s, c := source(4), &contained{}
	for range 2000 {
		k, prec := s.below(api.MaxOrder+1)/(1+s.below(4)), api.MinPrec+s.below(40)
		a, b := s.series(k+2), s.series(k+1)
		got, err := Coef(a, b, k, prec)
		for range 8 {
			if err == api.OK {
				c.has(t, exactTimes(s.from(a, k), s.from(b, k))[k], got, "Coef of "+text(a)+" and "+text(b))
			}
		}
	}
	c.enough(t, 8000, 500)
}

func TestOfContains(t *testing.T) {
	s, c := source(5), &contained{}
	for range 1200 {
		n, k, prec := 1+s.below(api.MaxDim), s.below(api.MaxOrder+1)/(1+s.below(4)), api.MinPrec+s.below(40)
		p := s.poly(n, 1+s.below(4), 1+s.below(api.MaxDeg)/2)
		var xs [][]api.Iv
		for range n {
			xs = append(xs, s.series(k+1+s.below(2)))
		}
		got, err := Of(p, xs, k, prec)
		for range 5 {
			if err != api.OK {
				break
			}
			var numbers [][]dyadic
			for _, x := range xs {
				numbers = append(numbers, s.from(x, k))
			}
			c.has(t, exactOf(p, numbers)[k], got, "Of "+polyText(p)+" on "+texts(xs))
		}
	}
	c.enough(t, 3000, 300)
}

func TestSumContains(t *testing.T) {
	s, c := source(6), &contained{}
	for range 2000 {
		k, prec := s.below(api.MaxOrder+1), api.MinPrec+s.below(40)
		a, h := s.series(k+1), s.interval(1+s.below(2))
		got, err := Sum(a, h, prec)
		for range 8 {
			if err == api.OK {
				c.has(t, exactSum(s.from(a, k), s.between(h)), got, "Sum of "+text(a)+" at "+ivText(h))
			}
		}
	}
	c.enough(t, 8000, 500)
}

// TestExactPoints: of points, with enough bits, a result is the exact value.
func TestExactPoints(t *testing.T) {
	s := source(7)
	points := func(k int) ([]api.Iv, []dyadic) {
		var a []api.Iv
		var l []dyadic
		for range k + 1 {
			x := s.number(1)
			a, l = append(a, point(x)), append(l, valueOf(x))
		}
		return a, l
	}
	exact := func(d dyadic) api.Iv {
		x, _ := d.number()
		return point(x)
	}
	for range 1000 {
		k, n := s.below(api.MaxOrder+1), 1+s.below(api.MaxDim)
		a, as := points(k)
		b, bs := points(k)
		checkCoef(t, a, b, k, api.MaxPrec, exact(exactTimes(as, bs)[k]), api.OK)
		h := s.number(1)
		checkSum(t, a, point(h), api.MaxPrec, exact(exactSum(as, valueOf(h))), api.OK)
		xs, numbers := make([][]api.Iv, n), make([][]dyadic, n)
		for i := range n {
			xs[i], numbers[i] = points(k)
		}
		p := s.poly(n, 3, api.MaxDeg)
		for i := range p {
			p[i].C = of(1+2*int64(s.below(50)), 0)
		}
		checkOf(t, p, xs, k, api.MaxPrec, exact(exactOf(p, numbers)[k]), api.OK)
		if t.Failed() {
			return
		}
	}
}
