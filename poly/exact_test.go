package poly

import (
	"math/big"
	"slices"
	"testing"

	"fathomline/api"
)

// P10.2 and P10.3: the results are those of another implementation, which forms
// each value by math/big and knows nothing of limits until it is asked for a
// valid number. Of the program it uses package api alone.

// dyadic is m times 2^exp.
type dyadic struct {
	m   *big.Int
	exp int64
}

func whole(n int64) dyadic { return dyadic{big.NewInt(n), 0} }

// valueOf goes through bytes, so that it hangs on no word size of math/big.
func valueOf(x api.Num) dyadic {
	text := make([]byte, 8*len(x.W))
	for i, w := range x.W {
		for k := range 8 {
			text[len(text)-1-8*i-k] = byte(w >> (8 * k))
		}
	}
	m := new(big.Int).SetBytes(text)
	if x.Neg {
		m.Neg(m)
	}
	return dyadic{m, x.Exp}
}

// at is the integer that d has for an exponent that is not greater.
func (d dyadic) at(exp int64) *big.Int {
	return new(big.Int).Lsh(d.m, uint(d.exp-exp))
}

func (d dyadic) plus(e dyadic) dyadic {
	if d.m.Sign() == 0 {
		return e
	}
	if e.m.Sign() == 0 {
		return d
	}
	exp := min(d.exp, e.exp)
	return dyadic{new(big.Int).Add(d.at(exp), e.at(exp)), exp}
}

func (d dyadic) times(e dyadic) dyadic {
	return dyadic{new(big.Int).Mul(d.m, e.m), d.exp + e.exp}
}

func (d dyadic) cmp(e dyadic) int {
	exp := min(d.exp, e.exp)
	return d.at(exp).Cmp(e.at(exp))
}

// number is the valid number with the value, or false.
func (d dyadic) number() (api.Num, bool) {
	if d.m.Sign() == 0 {
		return api.Num{}, true
	}
	zeros := d.m.TrailingZeroBits()
	m := new(big.Int).Rsh(new(big.Int).Abs(d.m), zeros)
	exp := d.exp + int64(zeros)
	if m.BitLen() > maxBits || exp < -maxExp || exp > maxExp {
		return api.Num{}, false
	}
	x := api.Num{Neg: d.m.Sign() < 0, Exp: exp}
	for mask := new(big.Int).SetUint64(all); m.Sign() > 0; m.Rsh(m, 64) {
		x.W = append(x.W, new(big.Int).And(m, mask).Uint64())
	}
	return x, true
}

// part is a monomial whose coefficient need not be a valid number.
type part struct {
	c dyadic
	e []int
}

// isNumber tells what P2.1 says of valid numbers.
func isNumber(x api.Num) bool {
	y, ok := valueOf(x).number()
	return ok && equal(x, y)
}

// isPart reports whether m is a monomial of n variables.
func isPart(m api.Mono, n int) bool {
	sum := new(big.Int)
	for _, k := range m.E {
		if k < 0 {
			return false
		}
		sum.Add(sum, big.NewInt(int64(k)))
	}
	return len(m.E) == n && sum.Cmp(big.NewInt(api.MaxDeg)) <= 0 && isNumber(m.C)
}

// isPoly is Right by the words of P10.1.
func isPoly(p []api.Mono, n int) bool {
	for i, m := range p {
		if !isPart(m, n) || len(m.C.W) == 0 {
			return false
		}
		for _, other := range p[i+1:] {
			if len(other.E) != n || !descends(m.E, other.E) {
				return false
			}
		}
	}
	return n >= 1 && n <= api.MaxDim && len(p) <= api.MaxTerms
}

// descends reports whether the first exponent that differs is greater in a.
func descends(a, b []int) bool {
	for i := range a {
		if a[i] != b[i] {
			return a[i] > b[i]
		}
	}
	return false
}

// wantJoined puts each part where it belongs among those before it.
func wantJoined(parts []part) ([]api.Mono, api.Errno) {
	var joined []part
next:
	for _, x := range parts {
		for i, y := range joined {
			if slices.Equal(x.e, y.e) {
				joined[i].c = y.c.plus(x.c)
				continue next
			}
			if descends(x.e, y.e) {
				joined = slices.Insert(joined, i, x)
				continue next
			}
		}
		joined = append(joined, x)
	}
	var p []api.Mono
	for _, x := range joined {
		c, ok := x.c.number()
		if !ok {
			return nil, api.ErrOver
		}
		if len(c.W) > 0 {
			p = append(p, term(c, x.e...))
		}
	}
	if len(p) > api.MaxTerms {
		return nil, api.ErrLong
	}
	return p, api.OK
}

// partsOf are the monomials of l.
func partsOf(l []api.Mono) []part {
	var parts []part
	for _, m := range l {
		parts = append(parts, part{valueOf(m.C), m.E})
	}
	return parts
}

func wantMake(l []api.Mono, n int) ([]api.Mono, api.Errno) {
	for _, m := range l {
		if !isPart(m, n) {
			return nil, api.ErrForm
		}
	}
	if n < 1 || n > api.MaxDim {
		return nil, api.ErrForm
	}
	return wantJoined(partsOf(l))
}

func wantAdd(a, b []api.Mono, n int) ([]api.Mono, api.Errno) {
	if !isPoly(a, n) || !isPoly(b, n) {
		return nil, api.ErrForm
	}
	return wantJoined(append(partsOf(a), partsOf(b)...))
}

// wantDegree is that of a polynomial.
func wantDegree(p []api.Mono) int {
	greatest := 0
	for _, m := range p {
		sum := 0
		for _, k := range m.E {
			sum += k
		}
		greatest = max(greatest, sum)
	}
	return greatest
}

func wantProducts(a, b []api.Mono) []part {
	var products []part
	for _, x := range a {
		for _, y := range b {
			e := slices.Clone(x.E)
			for i, k := range y.E {
				e[i] += k
			}
			products = append(products, part{valueOf(x.C).times(valueOf(y.C)), e})
		}
	}
	return products
}

func wantMul(a, b []api.Mono, n int) ([]api.Mono, api.Errno) {
	if !isPoly(a, n) || !isPoly(b, n) {
		return nil, api.ErrForm
	}
	if len(a) > 0 && len(b) > 0 && wantDegree(a)+wantDegree(b) > api.MaxDeg {
		return nil, api.ErrLong
	}
	products := wantProducts(a, b)
	for _, x := range products {
		if _, ok := x.c.number(); !ok {
			return nil, api.ErrOver
		}
	}
	return wantJoined(products)
}

func wantDiff(p []api.Mono, i, n int) ([]api.Mono, api.Errno) {
	if !isPoly(p, n) || i < 0 || i >= n {
		return nil, api.ErrForm
	}
	var parts []part
	for _, m := range p {
		if m.E[i] > 0 {
			e := slices.Clone(m.E)
			e[i]--
			parts = append(parts, part{valueOf(m.C).times(whole(int64(m.E[i]))), e})
		}
	}
	return wantJoined(parts)
}

// exactAt is the value of p at x, whether a valid number has it or not.
func exactAt(p []api.Mono, x []dyadic) dyadic {
	sum := whole(0)
	for _, m := range p {
		v := valueOf(m.C)
		for i, k := range m.E {
			v = v.times(dyadic{new(big.Int).Exp(x[i].m, big.NewInt(int64(k)), nil), int64(k) * x[i].exp})
		}
		sum = sum.plus(v)
	}
	return sum
}

func wantAt(p []api.Mono, x []api.Num) (api.Num, api.Errno) {
	if !isPoly(p, len(x)) {
		return api.Num{}, api.ErrForm
	}
	var values []dyadic
	for _, y := range x {
		if !isNumber(y) {
			return api.Num{}, api.ErrForm
		}
		values = append(values, valueOf(y))
	}
	v, ok := exactAt(p, values).number()
	if !ok {
		return api.Num{}, api.ErrOver
	}
	return v, api.OK
}

// source yields the same words in every run.
type source uint64

func (s *source) next() uint64 {
	*s += 0x9e3779b97f4a7c15
	x := uint64(*s)
	x = (x ^ x>>30) * 0xbf58476d1ce4e5b9
	x = (x ^ x>>27) * 0x94d049bb133111eb
	return x ^ x>>31
}

func (s *source) below(n int) int { return int(s.next() % uint64(n)) }

// number is valid, and none if kind is 0. Otherwise it is near 1, or of any
// size and at the bounds of exponents if kind is 3 and above.
func (s *source) number(kind int) api.Num {
	switch kind {
	case 0:
		l := []api.Num{{Neg: true}, {Exp: 1}, {W: []uint64{0}}, {W: []uint64{1, 0}}, of(2, 0), wide(maxBits+1, 0), of(1, maxExp+1), of(-1, -maxExp-1)}
		return l[s.below(len(l))]
	case 1, 2:
		return odd(int64(s.below(9))-4, int64(s.below(3)))
	}
	size := 1 + s.below(3)
	if s.below(3) == 0 {
		size = api.MaxWords / (1 + s.below(8))
	}
	w := make([]uint64, size)
	for i := range w {
		w[i] = s.next()
		if s.below(2) == 0 {
			w[i] = all
		}
	}
	w[0] |= 1
	w[size-1] = w[size-1]>>s.below(64) | 1
	exp := int64(s.below(300)) - 150
	switch s.below(8) {
	case 0:
		exp = maxExp - int64(s.below(3))
	case 1:
		exp = int64(s.below(3)) - maxExp
	case 2:
		exp = int64(s.below(2*maxExp/8)) - maxExp/8
	}
	return api.Num{Neg: s.below(2) == 0, Exp: exp, W: w}
}

// kind is that of a number: seldom none, mostly near 1.
func (s *source) kind() int {
	if s.below(60) == 0 {
		return 0
	}
	return 1 + s.below(20)%3
}

// exps are mostly those of a monomial of n variables.
func (s *source) exps(n, degree int) []int {
	e := make([]int, n)
	for range s.below(degree + 1) {
		e[s.below(n)]++
	}
	switch s.below(300) {
	case 0:
		e[s.below(n)] = -1
	case 1:
		e[s.below(n)] += api.MaxDeg
	case 2:
		e = append(e, 0)
	case 3:
		e = e[1:]
	}
	return e
}

// list has that many monomials, which are in no order.
func (s *source) list(n, terms, degree, kind int) []api.Mono {
	var l []api.Mono
	for range terms {
		l = append(l, term(s.number(min(kind, s.kind())), s.exps(n, degree)...))
	}
	return l
}

// poly is mostly a polynomial: if it can be, it is joined and cut.
func (s *source) poly(n, terms, degree, kind int) []api.Mono {
	l := s.list(n, terms, degree, kind)
	if s.below(20) == 0 {
		return l
	}
	var parts []part
	for _, m := range l {
		if isPart(m, n) {
			parts = append(parts, part{valueOf(m.C), m.E})
		}
	}
	p, err := wantJoined(parts)
	if err != api.OK {
		return l[:min(1, len(l))]
	}
	return p
}

// counts are how often a function had each result.
type counts map[string]map[api.Errno]int

func (c counts) add(name string, err api.Errno) {
	if c[name] == nil {
		c[name] = map[api.Errno]int{}
	}
	c[name][err]++
}

// enough expects each result at least so often.
func (c counts) enough(t *testing.T, name string, least int, errs ...api.Errno) {
	t.Helper()
	for _, err := range errs {
		if c[name][err] < least {
			t.Errorf("%s: only %d results with error %d", name, c[name][err], err)
		}
	}
}

// expect compares a result with that of the reference.
func (c counts) expect(t *testing.T, name string, got []api.Mono, err api.Errno, want []api.Mono, wantErr api.Errno, args ...[]api.Mono) {
	t.Helper()
	c.add(name, wantErr)
	if err != wantErr || !equalList(got, want) {
		var texts []string
		for _, l := range args {
			texts = append(texts, text(l))
		}
		t.Fatalf("%s of %q: %s, %d, not %s, %d", name, texts, text(got), err, text(want), wantErr)
	}
}

func TestAgainstReference(t *testing.T) {
	s, seen := source(1), counts{}
	for range 40000 {
		n := 1 + s.below(api.MaxDim)
		k, degree, kind := n, 1+s.below(api.MaxDeg), 1+s.below(3)
		if s.below(50) == 0 {
			k = s.below(api.MaxDim+3) - 1
		}
		l := s.list(n, s.below(60)>>s.below(5), degree, kind)
		a := s.poly(n, s.below(40)>>s.below(5), degree, kind)
		b := s.poly(n, s.below(40)>>s.below(5), max(1, api.MaxDeg-degree), kind)
		i := s.below(n+2) - 1
		got, err := Make(l, k)
		want, wantErr := wantMake(l, k)
		seen.expect(t, "Make", got, err, want, wantErr, l)
		got, err = Add(a, b, k)
		want, wantErr = wantAdd(a, b, k)
		seen.expect(t, "Add", got, err, want, wantErr, a, b)
		got, err = Mul(a, b, k)
		want, wantErr = wantMul(a, b, k)
		seen.expect(t, "Mul", got, err, want, wantErr, a, b)
		got, err = Diff(a, i, k)
		want, wantErr = wantDiff(a, i, k)
		seen.expect(t, "Diff", got, err, want, wantErr, a)
		for _, p := range [][]api.Mono{l, a, b} {
			if Right(p, k) != isPoly(p, k) {
				t.Fatalf("Right(%s, %d) = %t", text(p), k, Right(p, k))
			}
			want := 0
			if len(p) > 0 && isPoly(p, len(p[0].E)) {
				want = wantDegree(p)
			}
			if Degree(p) != want {
				t.Fatalf("Degree(%s) = %d, not %d", text(p), Degree(p), want)
			}
		}
	}
	for _, name := range []string{"Make", "Add", "Mul"} {
		seen.enough(t, name, 500, api.OK, api.ErrForm, api.ErrOver)
		seen.enough(t, name, 50, api.ErrLong)
	}
	seen.enough(t, "Diff", 500, api.OK, api.ErrForm)
	seen.enough(t, "Diff", 20, api.ErrOver)
}

// TestMakeCancels has lists of numbers whose high or low parts cancel.
func TestMakeCancels(t *testing.T) {
	s, seen := source(2), counts{}
	for range 3000 {
		var l []api.Mono
		for range 1 + s.below(6) {
			c := s.number(3)
			l = append(l, mono(int64(s.below(3)), 1), term(c, 1), term(minus(c), 1))
			if s.below(3) == 0 {
				c.W = slices.Clone(c.W)
				c.W[s.below(len(c.W))] ^= 1 << (1 + s.below(62))
				c.W[len(c.W)-1] |= 1
				l = append(l, term(c, 1))
			}
		}
		for i := range l {
			j := s.below(i + 1)
			l[i], l[j] = l[j], l[i]
		}
		got, err := Make(l, 1)
		want, wantErr := wantMake(l, 1)
		seen.expect(t, "Make", got, err, want, wantErr, l)
	}
	seen.enough(t, "Make", 300, api.OK, api.ErrOver)
}
