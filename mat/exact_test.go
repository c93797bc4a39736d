package mat

import (
	"math/big"
	"testing"

	"fathomline/api"
	"fathomline/iv"
	"fathomline/num"
	"fathomline/round"
)

// source yields the same words in every run.
type source uint64

func (s *source) next() uint64 {
	*s += 0x9e3779b97f4a7c15
	x := uint64(*s)
	x = (x ^ x>>30) * 0xbf58476d1ce4e5b9
	x = (x ^ x>>27) * 0x94d049bb133111eb
	return x ^ x>>31
}

func (s *source) below(n int) int { return int(s.next() % uint64(n)) }

// number is valid: of few words and near 1, or, if far is true, of any size
// and at the bounds of exponents.
func (s *source) number(far bool) api.Num {
	w := make([]uint64, s.below(4))
	if far && s.below(4) == 0 {
		w = make([]uint64, api.MaxWords)
	}
	if len(w) == 0 {
		return api.Num{}
	}
	for i := range w {
		w[i] = s.next() >> s.below(64)
	}
	w[0] |= 1
	w[len(w)-1] |= 1
	exp := int64(s.below(100)) - 50 - 64*int64(len(w))
	if far {
		switch s.below(4) {
		case 0:
			exp = maxExp - int64(s.below(2))
		case 1:
			exp = int64(s.below(4)) - maxExp
		}
	}
	return api.Num{Neg: s.below(2) == 0, Exp: exp, W: w}
}

// interval is valid, and sometimes a point.
func (s *source) interval(far bool) api.Iv {
	x, y := s.number(far), s.number(far)
	if s.below(6) == 0 {
		y = x
	}
	if num.Cmp(x, y) > 0 {
		x, y = y, x
	}
	return from(x, y)
}

// matrix is valid. One or two of its intervals may be far from the others.
func (s *source) matrix(n int) [][]api.Iv {
	m := filled(n, api.Iv{})
	for i := range n {
		for j := range n {
			m[i][j] = s.interval(s.below(16*n*n) == 0)
		}
	}
	return m
}

func (s *source) prec() int {
	if s.below(2) == 0 {
		return inside()[s.below(len(inside()))]
	}
	return api.MinPrec + s.below(api.MaxPrec-api.MinPrec+1)
}

// P7.2 and P7.3: the results are those of the operations of packages iv and
// round, named one by one.

// positionwise has what f returns for the elements of a and b.
func positionwise(a, b [][]api.Iv, f func(x, y api.Iv) (api.Iv, api.Errno)) (result, api.Errno) {
	m := filled(len(a), api.Iv{})
	for i := range a {
		for j := range a {
			x, err := f(a[i][j], b[i][j])
			if err != api.OK {
				return result{}, err
			}
			m[i][j] = x
		}
	}
	return result{matrix: m}, api.OK
}

// dot is the sum of the products of the first intervals of x and y.
func dot(x, y []api.Iv, prec int) (api.Iv, api.Errno) {
	last := len(x) - 1
	product, err := iv.Mul(x[last], y[last], prec)
	if err != api.OK || last == 0 {
		return product, err
	}
	sum, err := dot(x[:last], y[:last], prec)
	if err != api.OK {
		return api.Iv{}, err
	}
	return iv.Add(sum, product, prec)
}

func wantMul(a, b [][]api.Iv, prec int) (result, api.Errno) {
	m, columns := filled(len(a), api.Iv{}), turned(b)
	for i := range a {
		for j := range a {
			x, err := dot(a[i], columns[j], prec)
			if err != api.OK {
				return result{}, err
			}
			m[i][j] = x
		}
	}
	return result{matrix: m}, api.OK
}

func wantVec(m [][]api.Iv, b []api.Iv, prec int) (result, api.Errno) {
	var list []api.Iv
	for _, r := range m {
		x, err := dot(r, b, prec)
		if err != api.OK {
			return result{}, err
		}
		list = append(list, x)
	}
	return result{box: list}, api.OK
}

func wantMid(m [][]api.Iv, prec int) (result, api.Errno) {
	var nums [][]api.Num
	for _, r := range m {
		var list []api.Num
		for _, a := range r {
			x, err := iv.Mid(a, prec)
			if err != api.OK {
				return result{}, err
			}
			list = append(list, x)
		}
		nums = append(nums, list)
	}
	return result{nums: nums}, api.OK
}

func wantNorm(m [][]api.Iv, prec int) (result, api.Errno) {
	var best api.Num
	for _, r := range m {
		sum := iv.Mag(r[0])
		for _, a := range r[1:] {
			var err api.Errno
			if sum, err = round.Add(sum, iv.Mag(a), prec, true); err != api.OK {
				return result{}, err
			}
		}
		if num.Cmp(sum, best) > 0 {
			best = sum
		}
	}
	return result{norm: best}, api.OK
}

func wanted(name string, o operands, prec int) (result, api.Errno) {
	switch name {
	case "Add":
		return positionwise(o.a, o.b, func(x, y api.Iv) (api.Iv, api.Errno) { return iv.Add(x, y, prec) })
	case "Sub":
		return positionwise(o.a, o.b, func(x, y api.Iv) (api.Iv, api.Errno) { return iv.Sub(x, y, prec) })
	case "Times":
		return positionwise(o.a, o.a, func(y, _ api.Iv) (api.Iv, api.Errno) { return iv.Mul(o.x, y, prec) })
	case "Mul":
		return wantMul(o.a, o.b, prec)
	case "Vec":
		return wantVec(o.a, o.v, prec)
	case "Mid":
		return wantMid(o.a, prec)
	}
	return wantNorm(o.a, prec)
}

func TestAgainstIntervals(t *testing.T) {
	s := source(1)
	seen := map[api.Errno]map[string]int{api.OK: {}, api.ErrOver: {}}
	for range 2500 {
		n, prec := 1+s.below(api.MaxDim), s.prec()
		o := operands{a: s.matrix(n), b: s.matrix(n), v: s.matrix(n)[0], x: s.interval(s.below(16) == 0)}
		for name := range operations() {
			want, wantErr := wanted(name, o, prec)
			expect(t, name, o, prec, want, wantErr)
			seen[wantErr][name]++
		}
		if t.Failed() {
			return
		}
	}
	for name := range operations() {
		if seen[api.OK][name] < 1000 || seen[api.ErrOver][name] < 20 {
			t.Errorf("%s: only %d results, and %d beyond the limits", name, seen[api.OK][name], seen[api.ErrOver][name])
		}
	}
}

// P7.4: products of numbers are formed by math/big, which knows nothing of
// limits.

// dyadic is m times 2^exp.
type dyadic struct {
	m   *big.Int
	exp int64
}

// valueOf goes through bytes, so that it hangs on no word size of math/big.
func valueOf(x api.Num) dyadic {
	text := make([]byte, 8*len(x.W))
	for i, w := range x.W {
		for k := range 8 {
			text[len(text)-1-8*i-k] = byte(w >> (8 * k))
		}
	}
	m := new(big.Int).SetBytes(text)
	if x.Neg {
		m.Neg(m)
	}
	return dyadic{m, x.Exp}
}

// at is the integer that d has for an exponent that is not greater.
func (d dyadic) at(exp int64) *big.Int {
	return new(big.Int).Lsh(d.m, uint(d.exp-exp))
}

func (d dyadic) plus(e dyadic) dyadic {
	exp := min(d.exp, e.exp)
	return dyadic{new(big.Int).Add(d.at(exp), e.at(exp)), exp}
}

func (d dyadic) times(e dyadic) dyadic {
	return dyadic{new(big.Int).Mul(d.m, e.m), d.exp + e.exp}
}

func (d dyadic) cmp(e dyadic) int {
	exp := min(d.exp, e.exp)
	return d.at(exp).Cmp(e.at(exp))
}

func within(d dyadic, a api.Iv) bool {
	return valueOf(a.Lo).cmp(d) <= 0 && d.cmp(valueOf(a.Hi)) <= 0
}

// exactDot is the sum of the products of two lists of numbers.
func exactDot(x, y []api.Num) dyadic {
	sum := dyadic{new(big.Int), 0}
	for k := range x {
		sum = sum.plus(valueOf(x[k]).times(valueOf(y[k])))
	}
	return sum
}

// column is the column j of p.
func column(p [][]api.Num, j int) []api.Num {
	var list []api.Num
	for _, r := range p {
		list = append(list, r[j])
	}
	return list
}

// contains reports whether the product of p and q is in m.
func contains(m [][]api.Iv, p, q [][]api.Num) bool {
	for i := range m {
		for j := range m {
			if !within(exactDot(p[i], column(q, j)), m[i][j]) {
				return false
			}
		}
	}
	return true
}

// choose is the matrix of the numbers that f chooses from the intervals.
func choose(m [][]api.Iv, f func(a api.Iv) api.Num) [][]api.Num {
	var p [][]api.Num
	for _, r := range m {
		var list []api.Num
		for _, a := range r {
			list = append(list, f(a))
		}
		p = append(p, list)
	}
	return p
}

// between is a number in a: an end, or one that cuts a into parts.
func (s *source) between(a api.Iv) api.Num {
	width, err1 := num.Sub(a.Hi, a.Lo)
	part, _ := num.Scale(num.Int(int64(s.below(9))), -3)
	x, err2 := num.Mul(width, part)
	x, err3 := num.Add(a.Lo, x)
	if err1 != api.OK || err2 != api.OK || err3 != api.OK {
		return a.Hi
	}
	return x
}

// end is an end of a.
func (s *source) end(a api.Iv) api.Num {
	if s.below(2) == 0 {
		return a.Lo
	}
	return a.Hi
}

// TestProductContains: the product has the product of any numbers of the
// operands, and of points the point.
func TestProductContains(t *testing.T) {
	s := source(2)
	seen := 0
	for range 1500 {
		n, prec := 1+s.below(api.MaxDim), s.prec()
		a, b := s.matrix(n), s.matrix(n)
		product, err := Mul(a, b, prec)
		if err != api.OK {
			continue
		}
		seen++
		for _, f := range []func(a api.Iv) api.Num{s.between, s.between, s.end, s.end} {
			p, q := choose(a, f), choose(b, f)
			if !In(Of(p), a) || !In(Of(q), b) || !contains(product, p, q) {
				t.Fatalf("the product of %v and %v to %d bits has not that of %v and %v", a, b, prec, p, q)
			}
			if part, err := Mul(Of(p), Of(q), prec); err == api.OK && !In(part, product) {
				t.Fatalf("the product of %v and %v to %d bits has not all of that of %v and %v", a, b, prec, p, q)
			}
		}
	}
	if seen < 1000 {
		t.Errorf("only %d products", seen)
	}
}

// TestCornersContained has all ends of intervals of two rows, and products
// that need more bits than there are.
func TestCornersContained(t *testing.T) {
	a := matrix(boxOf(ints(-257, 3), ints(255, 509)), boxOf(ints(-1, 1), ints(-1023, -511)))
	b := matrix(boxOf(ints(17, 273), ints(-5, 0)), boxOf(ints(-333, 111), ints(257, 257)))
	product, err := Mul(a, b, 8)
	if err != api.OK {
		t.Fatalf("Mul = %d", err)
	}
	for code := range 1 << 8 {
		turn := 0
		end := func(a api.Iv) api.Num {
			turn++
			if code>>(turn-1)&1 == 0 {
				return a.Lo
			}
			return a.Hi
		}
		p := choose(a, end)
		q := choose(b, end)
		if !contains(product, p, q) {
			t.Errorf("the product has not that of %v and %v", p, q)
		}
	}
}

// TestVecContains is the same for a matrix and a box.
func TestVecContains(t *testing.T) {
	s := source(3)
	seen := 0
	for range 1500 {
		n, prec := 1+s.below(api.MaxDim), s.prec()
		m, b := s.matrix(n), s.matrix(n)[0]
		product, err := Vec(m, b, prec)
		if err != api.OK {
			continue
		}
		seen++
		p, q := choose(m, s.between), choose(matrix(b), s.between)[0]
		for i, r := range p {
			if !within(exactDot(r, q), product[i]) {
				t.Fatalf("the product of %v and %v to %d bits has not that of %v and %v", m, b, prec, p, q)
			}
		}
	}
	if seen < 1000 {
		t.Errorf("only %d products", seen)
	}
}
