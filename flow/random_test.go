package flow

import (
	"slices"
	"testing"

	"fathomline/api"
)

// source yields the same words in every run.
type source uint64

func (s *source) next() uint64 {
	*s += 0x9e3779b97f4a7c15
	x := uint64(*s)
	x = (x ^ x>>30) * 0xbf58476d1ce4e5b9
	x = (x ^ x>>27) * 0x94d049bb133111eb
	return x ^ x>>31
}

func (s *source) below(n int) int { return int(s.next() % uint64(n)) }

// number is valid, and none if kind is 0. Otherwise it is near 1, or of any
// size and at the bounds of exponents if kind is 3 and above.
func (s *source) number(kind int) api.Num {
	switch kind {
	case 0:
		l := []api.Num{{Neg: true}, {Exp: 1}, {W: []uint64{0}}, {W: []uint64{1, 0}}, of(2, 0), wide(maxBits+1, 0), of(1, maxExp+1), of(-1, -maxExp-1)}
		return l[s.below(len(l))]
	case 1:
		return odd(int64(s.below(9))-4, int64(s.below(3)))
	case 2:
		return odd(int64(s.below(1<<16))-1<<15, -int64(s.below(24)))
	}
	w := make([]uint64, 1+s.below(3))
	for i := range w {
		w[i] = s.next()
	}
	w[0] |= 1
	w[len(w)-1] = w[len(w)-1]>>s.below(64) | 1
	exp := int64(s.below(300)) - 150
	switch s.below(8) {
	case 0:
		exp = maxExp - int64(s.below(200))
	case 1:
		exp = int64(s.below(200)) - maxExp
	case 2:
		exp = int64(s.below(2*maxExp/8)) - maxExp/8
	}
	return api.Num{Neg: s.below(2) == 0, Exp: exp, W: w}
}

// interval is valid if kind is not 0; it has numbers of the kind.
func (s *source) interval(kind int) api.Iv {
	x, y := s.number(kind), s.number(kind)
	if kind == 0 {
		return []api.Iv{from(of(5, 0), of(3, 0)), from(x, of(1, maxExp)), from(of(-1, maxExp), y)}[s.below(3)]
	}
	if valueOf(x).cmp(valueOf(y)) > 0 {
		x, y = y, x
	}
	switch s.below(6) {
	case 0:
		return point(x)
	case 1:
		return api.Iv{}
	}
	return from(x, y)
}

// box has intervals of ordinary size.
func (s *source) box(n int) []api.Iv {
	var b []api.Iv
	for range n {
		b = append(b, s.interval(1+s.below(2)))
	}
	return b
}

// field has n polynomials of about so many terms.
func (s *source) field(n, degree, terms int) [][]api.Mono {
	f := make([][]api.Mono, n)
	l := exps(n, degree)
	for i := range f {
		for _, e := range l {
			if c := s.number(1 + s.below(8)/7); len(c.W) > 0 && len(f[i]) < api.MaxTerms && s.below(len(l)) < terms {
				f[i] = append(f[i], term(c, e...))
			}
		}
	}
	return f
}

// flaw changes one thing of a call of Series, so that it often fails.
func (s *source) flaw(f [][]api.Mono, x []api.Iv, order, prec *int) ([][]api.Mono, []api.Iv) {
	n := len(f)
	i := s.below(n)
	switch s.below(12) {
	case 0:
		*order = noOrders()[s.below(4)]
	case 1:
		*prec = noPrecs()[s.below(4)]
	case 2:
		x = with(x, i, s.interval(0))
	case 3:
		x = append(slices.Clone(x), spanOf(1, 1))
	case 4:
		f = append(slices.Clone(f), nil)
	case 5:
		f = with(f, i, reversed(f[i]))
	case 6:
		f = with(f, i, append(slices.Clone(f[i]), term(s.number(0), make([]int, n)...)))
	case 7, 8:
		f = with(f, i, list(term(of(1, int64(s.below(maxExp))), single(n, s.below(n), 2)...)))
	default:
		x = with(x, i, s.interval(3))
	}
	return f, x
}

// reversed is l from its end.
func reversed[T any](l []T) []T {
	l = slices.Clone(l)
	slices.Reverse(l)
	return l
}

func (s *source) prec() int {
	if s.below(2) == 0 {
		return api.MinPrec + s.below(4)
	}
	return api.MinPrec + s.below(api.MaxPrec-api.MinPrec+1)
}

// enough expects each result at least so often.
func enough(t *testing.T, seen map[api.Errno]int, least int) {
	t.Helper()
	for _, err := range []api.Errno{api.OK, api.ErrForm, api.ErrOver} {
		if seen[err] < least {
			t.Errorf("only %d results with error %d", seen[err], err)
		}
	}
}

func TestSeriesAgainstReference(t *testing.T) {
	s, seen := source(1), map[api.Errno]int{}
	for range 4000 {
		n := 1 + s.below(api.MaxDim)
		order, prec := s.below(api.MaxOrder+1)/(1+s.below(3)), s.prec()
		f, x := s.field(n, 1+s.below(4), 1+s.below(4)), s.box(n)
		if s.below(2) == 0 {
			f, x = s.flaw(f, x, &order, &prec)
		}
		want, wantErr := wantSeries(f, x, order, prec)
		checkSeries(t, f, x, order, prec, want, wantErr)
		seen[wantErr]++
		if t.Failed() {
			return
		}
	}
	enough(t, seen, 100)
}

// TestSeriesOfGreatDegree has polynomials of as many terms and as great a degree
// as there can be.
func TestSeriesOfGreatDegree(t *testing.T) {
	s := source(2)
	for n := 1; n <= api.MaxDim; n++ {
		f, x := s.field(n, api.MaxDeg, 12), s.box(n)
		want, wantErr := wantSeries(f, x, 4, 24)
		checkSeries(t, f, x, 4, 24, want, wantErr)
		want, wantErr = wantSeries(fields(n)["all terms"], x, 3, 24)
		checkSeries(t, fields(n)["all terms"], x, 3, 24, want, wantErr)
	}
}

func TestSumAgainstReference(t *testing.T) {
	s, seen := source(3), map[api.Errno]int{}
	for range 12000 {
		l := make([][]api.Iv, 1+s.below(api.MaxDim))
		for i := range l {
			for range 1 + s.below(api.MaxOrder+1) {
				l[i] = append(l[i], s.interval(1+s.below(2)))
			}
		}
		h, prec, i := s.interval(1+s.below(2)), s.prec(), s.below(len(l))
		switch s.below(12) {
		case 0:
			prec = noPrecs()[s.below(4)]
		case 1:
			h = s.interval(0)
		case 2:
			h = s.interval(3)
		case 3:
			l = make([][]api.Iv, 0)
		case 4:
			l = same(api.MaxDim+1, l[0])
		case 5:
			l[i] = same(api.MaxOrder+2, l[i][0])
		case 6:
			l[i][s.below(len(l[i]))] = s.interval(0)
		case 7, 8, 9:
			l[i][s.below(len(l[i]))] = s.interval(3)
		}
		want, wantErr := wantSum(l, h, prec)
		checkSum(t, l, h, prec, want, wantErr)
		seen[wantErr]++
		if t.Failed() {
			return
		}
	}
	enough(t, seen, 300)
}
