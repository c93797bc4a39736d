package field

import (
	"math/big"
	"slices"
	"testing"

	"fathomline/api"
)

// P11.1 to P11.3: the results are those of another implementation, which forms
// each value by math/big and knows nothing of limits until it is asked for a
// valid number. Of the program it uses package api alone.

// dyadic is m times 2^exp.
type dyadic struct {
	m   *big.Int
	exp int64
}

func whole(n int64) dyadic { return dyadic{big.NewInt(n), 0} }

// valueOf goes through bytes, so that it hangs on no word size of math/big.
func valueOf(x api.Num) dyadic {
	bytes := make([]byte, 8*len(x.W))
	for i, w := range x.W {
		for k := range 8 {
			bytes[len(bytes)-1-8*i-k] = byte(w >> (8 * k))
		}
	}
	m := new(big.Int).SetBytes(bytes)
	if x.Neg {
		m.Neg(m)
	}
	return dyadic{m, x.Exp}
}

// at is the integer that d has for an exponent that is not greater.
func (d dyadic) at(exp int64) *big.Int {
	return new(big.Int).Lsh(d.m, uint(d.exp-exp))
}

func (d dyadic) plus(e dyadic) dyadic {
	if d.m.Sign() == 0 {
		return e
	}
	if e.m.Sign() == 0 {
		return d
	}
	exp := min(d.exp, e.exp)
	return dyadic{new(big.Int).Add(d.at(exp), e.at(exp)), exp}
}

func (d dyadic) times(e dyadic) dyadic {
	return dyadic{new(big.Int).Mul(d.m, e.m), d.exp + e.exp}
}

func (d dyadic) cmp(e dyadic) int {
	exp := min(d.exp, e.exp)
	return d.at(exp).Cmp(e.at(exp))
}

// number is the valid number with the value, or false.
func (d dyadic) number() (api.Num, bool) {
	if d.m.Sign() == 0 {
		return api.Num{}, true
	}
	zeros := d.m.TrailingZeroBits()
	m := new(big.Int).Rsh(new(big.Int).Abs(d.m), zeros)
	exp := d.exp + int64(zeros)
	if m.BitLen() > maxBits || exp < -maxExp || exp > maxExp {
		return api.Num{}, false
	}
	x := api.Num{Neg: d.m.Sign() < 0, Exp: exp}
	for mask := new(big.Int).SetUint64(all); m.Sign() > 0; m.Rsh(m, 64) {
		x.W = append(x.W, new(big.Int).And(m, mask).Uint64())
	}
	return x, true
}

// isNumber tells what P2.1 says of valid numbers.
func isNumber(x api.Num) bool {
	y, ok := valueOf(x).number()
	return ok && equal(x, y)
}

// degreeOf is the sum of exponents, or -1 if one is below 0.
func degreeOf(e []int) *big.Int {
	sum := new(big.Int)
	for _, k := range e {
		if k < 0 {
			return big.NewInt(-1)
		}
		sum.Add(sum, big.NewInt(int64(k)))
	}
	return sum
}

// isPoly is poly.Right by the words of P10.1.
func isPoly(p []api.Mono, n int) bool {
	for i, m := range p {
		degree := degreeOf(m.E)
		if len(m.E) != n || degree.Sign() < 0 || degree.Cmp(big.NewInt(api.MaxDeg)) > 0 || !isNumber(m.C) || len(m.C.W) == 0 {
			return false
		}
		for _, other := range p[i+1:] {
			if slices.Compare(m.E, other.E) <= 0 {
				return false
			}
		}
	}
	return n >= 1 && n <= api.MaxDim && len(p) <= api.MaxTerms
}

// isField is Right by the words of P11.1.
func isField(f [][]api.Mono) bool {
	for _, p := range f {
		if !isPoly(p, len(f)) {
			return false
		}
	}
	return len(f) >= 1 && len(f) <= api.MaxDim
}

func wantDegree(f [][]api.Mono) int {
	greatest := int64(0)
	for _, p := range f {
		for _, m := range p {
			if isPoly(p, len(p[0].E)) {
				greatest = max(greatest, degreeOf(m.E).Int64())
			}
		}
	}
	return int(greatest)
}

// exactAt is the value of p at x, whether a valid number has it or not.
func exactAt(p []api.Mono, x []api.Num) dyadic {
	sum := whole(0)
	for _, m := range p {
		v := valueOf(m.C)
		for i, k := range m.E {
			y := valueOf(x[i])
			v = v.times(dyadic{new(big.Int).Exp(y.m, big.NewInt(int64(k)), nil), int64(k) * y.exp})
		}
		sum = sum.plus(v)
	}
	return sum
}

func wantAt(f [][]api.Mono, x []api.Num) ([]api.Num, api.Errno) {
	if !isField(f) || len(x) != len(f) || slices.ContainsFunc(x, func(y api.Num) bool { return !isNumber(y) }) {
		return nil, api.ErrForm
	}
	var values []api.Num
	for _, p := range f {
		v, ok := exactAt(p, x).number()
		if !ok {
			return nil, api.ErrOver
		}
		values = append(values, v)
	}
	return values, api.OK
}

func wantJac(f [][]api.Mono) ([][][]api.Mono, api.Errno) {
	if !isField(f) {
		return nil, api.ErrForm
	}
	matrix := make([][][]api.Mono, len(f))
	for i, p := range f {
		matrix[i] = make([][]api.Mono, len(f))
		for j := range f {
			for _, m := range p {
				c, ok := valueOf(m.C).times(whole(int64(m.E[j]))).number()
				if !ok {
					return nil, api.ErrOver
				}
				if m.E[j] > 0 {
					// Those that are left stay in their order.
					matrix[i][j] = append(matrix[i][j], term(c, with(m.E, j, m.E[j]-1)...))
				}
			}
		}
	}
	return matrix, api.OK
}

// source yields the same words in every run.
type source uint64

func (s *source) next() uint64 {
	*s += 0x9e3779b97f4a7c15
	x := uint64(*s)
	x = (x ^ x>>30) * 0xbf58476d1ce4e5b9
	x = (x ^ x>>27) * 0x94d049bb133111eb
	return x ^ x>>31
}

func (s *source) below(n int) int { return int(s.next() % uint64(n)) }

// number is seldom none, mostly near 1, and else of any size.
func (s *source) number() api.Num {
	switch s.below(120) {
	case 0:
		l := []api.Num{{Neg: true}, {Exp: 1}, {W: []uint64{0}}, {W: []uint64{1, 0}}, of(2, 0), wide(maxBits+1, 0), of(1, maxExp+1), of(-1, -maxExp-1)}
		return l[s.below(len(l))]
	case 1, 2, 3, 4, 5, 6:
		return s.long()
	case 7, 8, 9, 10:
		return of(1-2*int64(s.below(2)), int64(s.below(maxExp/2))-maxExp/4)
	}
	return odd(int64(s.below(19))-9, int64(s.below(5))-2)
}

// long is a number of up to as many words as there can be.
func (s *source) long() api.Num {
	w := make([]uint64, 1+s.below(api.MaxWords)>>s.below(6))
	for i := range w {
		w[i] = s.next()
	}
	w[0] |= 1
	w[len(w)-1] = w[len(w)-1]>>s.below(64) | 1
	return api.Num{Neg: s.below(2) == 0, Exp: int64(s.below(300)) - 150, W: w}
}

func (s *source) numbers(n int) []api.Num {
	if s.below(40) == 0 {
		n = s.below(api.MaxDim + 2)
	}
	var x []api.Num
	for range n {
		x = append(x, s.number())
	}
	return x
}

func (s *source) box(n int) []api.Iv {
	var b []api.Iv
	for _, x := range s.numbers(n) {
		y := x
		if s.below(4) > 0 {
			y = s.number()
		}
		if valueOf(x).cmp(valueOf(y)) > 0 && s.below(40) > 0 {
			x, y = y, x
		}
		b = append(b, from(x, y))
	}
	return b
}

// poly is mostly a polynomial of n variables.
func (s *source) poly(n int) []api.Mono {
	left := exps(n, 1+s.below(api.MaxDeg))
	most := s.below(16) >> s.below(4)
	var p []api.Mono
	for i, e := range left {
		if s.below(len(left)-i) < most-len(p) {
			p = append(p, term(s.number(), e...))
		}
	}
	switch s.below(120) {
	case 0:
		slices.Reverse(p)
	case 1:
		p = append(p, mono(1, make([]int, n)...))
	case 2:
		p = append(p, mono(1, make([]int, n+1)...))
	}
	return slices.DeleteFunc(p, func(m api.Mono) bool { return len(m.C.W) == 0 && s.below(40) > 0 })
}

// field is mostly one of n variables.
func (s *source) field(n int) [][]api.Mono {
	lines := n
	if s.below(40) == 0 {
		lines = s.below(api.MaxDim + 2)
	}
	var f [][]api.Mono
	for range lines {
		f = append(f, s.poly(n))
	}
	if lines > 0 && s.below(12) == 0 {
		f[s.below(lines)] = s.far(n)
	}
	return f
}

// far is a polynomial with a derivative that has no valid numbers. Few of its
// values and ranges have ones.
func (s *source) far(n int) []api.Mono {
	e := make([]int, n)
	e[s.below(n)] = 2 + 2*s.below(3)
	return list(term(of(1+2*int64(s.below(9)), maxExp), e...))
}

func TestAgainstReference(t *testing.T) {
	s, at, jac := source(2), map[api.Errno]int{}, map[api.Errno]int{}
	for range 15000 {
		n := 1 + s.below(api.MaxDim)
		f, x := s.field(n), s.numbers(n)
		if Right(f) != isField(f) || Degree(f) != wantDegree(f) {
			t.Fatalf("%s: Right %t, Degree %d", text(f), Right(f), Degree(f))
		}
		want, wantErr := wantAt(f, x)
		checkAt(t, f, x, want, wantErr)
		at[wantErr]++
		matrix, wantErr := wantJac(f)
		checkJac(t, f, matrix, wantErr)
		jac[wantErr]++
		if t.Failed() {
			return
		}
	}
	for name, seen := range map[string]map[api.Errno]int{"At": at, "Jac": jac} {
		if seen[api.OK] < 2000 || seen[api.ErrForm] < 500 || seen[api.ErrOver] < 500 {
			t.Errorf("results of %s: %v", name, seen)
		}
	}
}

// P11.3: the value of the field at any point of the box is in Range.

// isWithin reports whether d is in a.
func isWithin(d dyadic, a api.Iv) bool {
	return valueOf(a.Lo).cmp(d) <= 0 && d.cmp(valueOf(a.Hi)) <= 0
}

// pointsOf are the corners of b and, where its ends are near enough, some points
// between them.
func (s *source) pointsOf(b []api.Iv) [][]api.Num {
	l := [][]api.Num{nil}
	for _, a := range b {
		var longer [][]api.Num
		for _, x := range l {
			for _, y := range []api.Num{a.Lo, a.Hi} {
				longer = append(longer, append(slices.Clone(x), y))
			}
		}
		l = longer
	}
	for range 6 {
		var x []api.Num
		for _, a := range b {
			x = append(x, s.between(a))
		}
		l = append(l, x)
	}
	return l
}

// between is Lo + (Hi - Lo) k / 16 for some k, or Lo if no valid number is there.
func (s *source) between(a api.Iv) api.Num {
	k := int64(s.below(17))
	part := dyadic{big.NewInt(k), -4}.times(valueOf(a.Hi)).plus(dyadic{big.NewInt(16 - k), -4}.times(valueOf(a.Lo)))
	if x, ok := part.number(); ok {
		return x
	}
	return a.Lo
}

func TestRangeContains(t *testing.T) {
	s, done, wider := source(3), 0, 0
	for range 4000 {
		n := 1 + s.below(api.MaxDim)
		f, b := s.field(n), s.box(n)
		prec := []int{api.MinPrec, api.MinPrec + s.below(60), api.MaxPrec}[s.below(3)]
		got, err := Range(f, b, prec)
		if err != api.OK {
			continue
		}
		done++
		if len(got) != n {
			t.Fatalf("Range(%s, %s, %d) = %s", text(f), boxText(b), prec, boxText(got))
		}
		for _, x := range s.pointsOf(b) {
			values, err := At(f, x)
			for i, p := range f {
				v := exactAt(p, x)
				if !isWithin(v, got[i]) || err == api.OK && !isWithin(valueOf(values[i]), got[i]) {
					t.Fatalf("%s at %s: value %d is not in Range(.., %s, %d) = %s", text(f), numsText(x), i, boxText(b), prec, boxText(got))
				}
				if valueOf(got[i].Lo).cmp(v) < 0 {
					wider++
				}
			}
		}
	}
	if done < 2000 || wider < 10000 {
		t.Errorf("%d ranges, %d values above their lower end", done, wider)
	}
}
