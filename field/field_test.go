package field

import (
	"fmt"
	"math"
	"slices"
	"strings"
	"testing"

	"fathomline/api"
)

const (
	all     = math.MaxUint64
	maxBits = 64 * api.MaxWords
	maxExp  = api.MaxExp
)

// of is m times 2^exp, as it is written: valid if m is odd.
func of(m, exp int64) api.Num {
	if m < 0 {
		return api.Num{Neg: true, Exp: exp, W: []uint64{-uint64(m)}}
	}
	return api.Num{Exp: exp, W: []uint64{uint64(m)}}
}

// odd is the valid number m times 2^exp.
func odd(m, exp int64) api.Num {
	if m == 0 {
		return api.Num{}
	}
	for m%2 == 0 {
		m, exp = m/2, exp+1
	}
	return of(m, exp)
}

// minus is -x; a 0 stays as it is.
func minus(x api.Num) api.Num {
	x.Neg = !x.Neg && len(x.W) > 0
	return x
}

// wide is 2^(bits-1) + 1 times 2^exp: that many bits, the outer ones 1.
func wide(bits int, exp int64) api.Num {
	w := make([]uint64, (bits+63)/64)
	w[(bits-1)/64] = 1 << ((bits - 1) % 64)
	w[0] |= 1
	return api.Num{Exp: exp, W: w}
}

// full is 2^bits - 1 times 2^exp.
func full(bits int, exp int64) api.Num {
	w := slices.Repeat([]uint64{all}, (bits+63)/64)
	w[len(w)-1] >>= uint(64*len(w) - bits)
	return api.Num{Exp: exp, W: w}
}

// ints are the valid numbers of these values.
func ints(values ...int64) []api.Num {
	var x []api.Num
	for _, v := range values {
		x = append(x, odd(v, 0))
	}
	return x
}

func from(lo, hi api.Num) api.Iv { return api.Iv{Lo: lo, Hi: hi} }

func point(x api.Num) api.Iv { return from(x, x) }

// spanOf is the interval from lo to hi.
func spanOf(lo, hi int64) api.Iv { return from(odd(lo, 0), odd(hi, 0)) }

func boxOf(b ...api.Iv) []api.Iv { return b }

func term(c api.Num, e ...int) api.Mono { return api.Mono{C: c, E: e} }

// mono has the coefficient c.
func mono(c int64, e ...int) api.Mono { return term(odd(c, 0), e...) }

func list(l ...api.Mono) []api.Mono { return l }

func fieldOf(f ...[]api.Mono) [][]api.Mono { return f }

// exps are all exponents of n variables whose sum is at most most, in
// descending order.
func exps(n, most int) [][]int {
	if n == 0 {
		return [][]int{nil}
	}
	var l [][]int
	for k := most; k >= 0; k-- {
		for _, e := range exps(n-1, most-k) {
			l = append(l, append([]int{k}, e...))
		}
	}
	return l
}

// some is the polynomial of the given number of monomials of n variables, with
// the coefficients 1, 2, 3, and so on.
func some(n, terms int) []api.Mono {
	var p []api.Mono
	for i, e := range exps(n, api.MaxDeg)[:terms] {
		p = append(p, mono(int64(i+1), e...))
	}
	return p
}

// single is 1 for variable i of n, and 0 for the others.
func single(n, i int) []int {
	e := make([]int, n)
	e[i] = 1
	return e
}

// with is l with one element replaced.
func with[T any](l []T, i int, x T) []T {
	l = slices.Clone(l)
	l[i] = x
	return l
}

// linear is the field of n polynomials whose coefficients are all different
// primes: x1' = 2 x1 + 3 x2 + .., and so on.
func linear(n int) [][]api.Mono {
	primes := []int64{2, 3, 5, 7, 11, 13, 17, 19, 23, 29, 31, 37, 41, 43, 47, 53}
	f := make([][]api.Mono, n)
	for i := range n {
		for j := range n {
			f[i] = append(f[i], mono(primes[n*i+j], single(n, j)...))
		}
	}
	return f
}

// fields are fields of n polynomials, of which no two are the same.
func fields(n int) map[string][][]api.Mono {
	constant := list(mono(-3, make([]int, n)...))
	l := map[string][][]api.Mono{
		"empty":     make([][]api.Mono, n),
		"constant":  slices.Repeat([][]api.Mono{constant}, n),
		"linear":    linear(n),
		"all terms": slices.Repeat([][]api.Mono{some(n, min(api.MaxTerms, len(exps(n, api.MaxDeg))))}, n),
	}
	for i := range n {
		l[fmt.Sprintf("empty but at %d", i)] = with(l["empty"], i, some(n, 5))
		l[fmt.Sprintf("linear, empty at %d", i)] = with(l["linear"], i, nil)
	}
	return l
}

func equal(a, b api.Num) bool {
	return a.Neg == b.Neg && a.Exp == b.Exp && slices.Equal(a.W, b.W)
}

func equalNums(a, b []api.Num) bool { return slices.EqualFunc(a, b, equal) }

func equalIv(a, b api.Iv) bool { return equal(a.Lo, b.Lo) && equal(a.Hi, b.Hi) }

func equalBox(a, b []api.Iv) bool { return slices.EqualFunc(a, b, equalIv) }

func equalPoly(a, b []api.Mono) bool {
	return slices.EqualFunc(a, b, func(x, y api.Mono) bool { return equal(x.C, y.C) && slices.Equal(x.E, y.E) })
}

func equalField(f, g [][]api.Mono) bool { return slices.EqualFunc(f, g, equalPoly) }

func equalMatrix(a, b [][][]api.Mono) bool { return slices.EqualFunc(a, b, equalField) }

// Texts are for messages.

func numText(x api.Num) string {
	sign := ""
	if x.Neg {
		sign = "-"
	}
	if len(x.W) > 2 {
		return fmt.Sprintf("%s(%d words)p%d", sign, len(x.W), x.Exp)
	}
	return fmt.Sprintf("%s%dp%d", sign, x.W, x.Exp)
}

func textsOf[T any](l []T, text func(x T) string) string {
	var texts []string
	for i, x := range l {
		if i == 30 {
			texts = append(texts, fmt.Sprintf("and %d more", len(l)-i))
			break
		}
		texts = append(texts, text(x))
	}
	return "{" + strings.Join(texts, ", ") + "}"
}

func numsText(x []api.Num) string { return textsOf(x, numText) }

func ivText(a api.Iv) string { return "[" + numText(a.Lo) + ", " + numText(a.Hi) + "]" }

func boxText(b []api.Iv) string { return textsOf(b, ivText) }

func monoText(m api.Mono) string { return numText(m.C) + fmt.Sprint(m.E) }

func polyText(p []api.Mono) string { return textsOf(p, monoText) }

func text(f [][]api.Mono) string { return textsOf(f, polyText) }

func matrixText(m [][][]api.Mono) string { return textsOf(m, text) }

// invalid are numbers that are not valid (P2.1), by the reason.
func invalid() map[string]api.Num {
	return map[string]api.Num{
		"0 that is negated":      {Neg: true},
		"0 with an exponent":     {Exp: 1},
		"0 of one word":          {W: []uint64{0}},
		"highest word 0":         {W: []uint64{1, 0}},
		"lowest bit 0":           of(2, 0),
		"one word too many":      wide(maxBits+1, 0),
		"exponent above MaxExp":  of(1, maxExp+1),
		"exponent below -MaxExp": of(-1, -maxExp-1),
		"greatest exponent":      of(1, math.MaxInt64),
		"least exponent":         of(-1, math.MinInt64),
	}
}

// noPolys are lists that are no polynomials of n variables, by the reason.
func noPolys(n int) map[string][]api.Mono {
	high, low := slices.Repeat([]int{1}, n), make([]int, n)
	high[0] = 2
	l := map[string][]api.Mono{
		"C 0":                        list(mono(0, high...)),
		"degree above MaxDeg":        list(mono(1, with(low, n-1, api.MaxDeg+1)...)),
		"exponent below 0":           list(mono(1, with(low, n-1, -1)...)),
		"greatest exponent":          list(mono(1, with(low, 0, math.MaxInt)...)),
		"ascending":                  list(mono(1, low...), mono(1, high...)),
		"twice the same":             list(mono(1, low...), mono(2, low...)),
		"no exponents":               list(mono(1)),
		"of one variable less":       list(mono(1, high[:n-1]...)),
		"of one variable more":       list(mono(1, append(slices.Clone(low), 1)...)),
		"of one more, which is 0":    list(mono(1, append(slices.Clone(high), 0)...)),
		"of MaxDim + 1":              list(mono(1, make([]int, api.MaxDim+1)...)),
		"the last of one more":       list(mono(1, high...), mono(1, append(slices.Clone(low), 0)...)),
		"more than MaxTerms of them": slices.Repeat(list(mono(1, low...)), api.MaxTerms+1),
	}
	if len(exps(n, api.MaxDeg)) > api.MaxTerms {
		l["more than MaxTerms, in order"] = some(n, api.MaxTerms+1)
	}
	for rule, x := range invalid() {
		l["C: "+rule] = list(mono(1, high...), term(x, low...))
	}
	return l
}

// noFields are what no fields are, by the reason.
func noFields() map[string][][]api.Mono {
	l := map[string][][]api.Mono{"nil": nil, "no polynomial": {}}
	for n := api.MaxDim + 1; n < 5*api.MaxDim; n++ {
		l[fmt.Sprintf("%d, empty", n)] = make([][]api.Mono, n)
		l[fmt.Sprintf("%d of as many variables", n)] = slices.Repeat(fieldOf(list(mono(1, make([]int, n)...))), n)
		l[fmt.Sprintf("%d of MaxDim variables", n)] = slices.Repeat(fieldOf(some(api.MaxDim, 5)), n)
	}
	for n := 1; n <= api.MaxDim; n++ {
		for k := 1; k <= api.MaxDim+1; k++ {
			if k == n {
				continue
			}
			l[fmt.Sprintf("%d of %d variables", n, k)] = slices.Repeat(fieldOf(list(mono(1, make([]int, k)...))), n)
			if k <= api.MaxDim {
				l[fmt.Sprintf("%d of %d variables, linear", n, k)] = slices.Repeat(linear(k)[:1], n)
			}
		}
		for i := range n {
			for rule, p := range noPolys(n) {
				for name, f := range fields(n) {
					l[fmt.Sprintf("%d, %s, but at %d: %s", n, name, i, rule)] = with(f, i, p)
				}
			}
		}
	}
	return l
}

// P11.1: Right

func TestRight(t *testing.T) {
	for n := 1; n <= api.MaxDim; n++ {
		for name, f := range fields(n) {
			if !Right(f) {
				t.Errorf("%d, %s: %s is not right", n, name, text(f))
			}
		}
		for _, c := range []api.Num{of(-1, 0), of(1, maxExp), of(-3, -maxExp), full(maxBits, maxExp), minus(wide(maxBits, -maxExp))} {
			for i := range n {
				f := with(linear(n), i, list(term(c, single(n, n-1-i)...)))
				if !Right(f) {
					t.Errorf("%s is not right", text(f))
				}
			}
		}
		for _, e := range exps(n, api.MaxDeg) {
			for i := range n {
				f := with(linear(n), i, list(mono(-7, e...)))
				if !Right(f) {
					t.Errorf("%s is not right", text(f))
				}
			}
		}
	}
}

func TestNotRight(t *testing.T) {
	for rule, f := range noFields() {
		if Right(f) {
			t.Errorf("%s: %s is right", rule, text(f))
		}
	}
}

// TestLengths: a field has as many polynomials as they have variables.
func TestLengths(t *testing.T) {
	for n := range 3 * api.MaxDim {
		if got, want := Right(make([][]api.Mono, n)), n >= 1 && n <= api.MaxDim; got != want {
			t.Errorf("%d empty polynomials: %t", n, got)
		}
		for k := range 3 * api.MaxDim {
			f := slices.Repeat(fieldOf(list(mono(1, make([]int, k)...))), n)
			if got, want := Right(f), n == k && n >= 1 && n <= api.MaxDim; got != want {
				t.Errorf("%d polynomials of %d variables: %t", n, k, got)
			}
		}
	}
}

// P11.1: Same

// sames are lists of which no two are the same, whether they are fields or not.
func sames() [][][]api.Mono {
	f := linear(3)
	l := [][][]api.Mono{nil, {nil}, {nil, nil}, make([][]api.Mono, 5), make([][]api.Mono, 6), f, f[:2], f[1:], append(slices.Clone(f), nil), append(fieldOf(nil), f...), append(slices.Clone(f), f[0])}
	l = append(l, fieldOf(f[0], f[2], f[1]), fieldOf(f[1], f[0], f[2]), fieldOf(f[2], f[1], f[0]), fieldOf(f[0], f[0], f[0]))
	l = append(l, fieldOf(list(mono(1, 9))), fieldOf(list(mono(1, 1, 1))), fieldOf(list(mono(1, -1))), fieldOf(list(mono(1))), fieldOf(list(mono(0))), fieldOf(list(mono(0, 0))))
	for _, x := range invalid() {
		l = append(l, fieldOf(list(term(x, 1))), fieldOf(nil, list(term(x, 1))))
	}
	for i, p := range f {
		l = append(l, with(f, i, nil), with(f, i, p[:2]), with(f, i, p[1:]), with(f, i, append(slices.Clone(p), mono(0))))
		for k, m := range p {
			l = append(l, with(f, i, with(p, k, mono(59, m.E...))), with(f, i, with(p, k, term(minus(m.C), m.E...))), with(f, i, with(p, k, term(m.C, 1, 1, 1))))
			c := m.C
			c.Exp++
			l = append(l, with(f, i, with(p, k, term(c, m.E...))), with(f, i, with(p, k, term(m.C, m.E[:2]...))))
		}
	}
	long := slices.Repeat(f[:1], 40)
	l = append(l, long, long[1:])
	for i := range long {
		l = append(l, with(long, i, f[1]))
	}
	return l
}

// copied is f in memory of its own.
func copied(f [][]api.Mono) [][]api.Mono {
	f = slices.Clone(f)
	for i, p := range f {
		f[i] = slices.Clone(p)
		for k, m := range p {
			m.C.W = slices.Clone(m.C.W)
			f[i][k] = term(m.C, slices.Clone(m.E)...)
		}
	}
	return f
}

func TestSame(t *testing.T) {
	l := sames()
	for i, f := range l {
		for j, g := range l {
			if Same(f, copied(g)) != (i == j) {
				t.Errorf("Same(%s, %s) = %t", text(f), text(g), i != j)
			}
		}
	}
	for _, x := range [][2][][]api.Mono{
		{nil, {}}, {{nil}, {{}}}, {{nil, {}}, {{}, nil}},
		{{{api.Mono{}}}, {{api.Mono{C: api.Num{W: []uint64{}}, E: []int{}}}}},
	} {
		if !Same(x[0], x[1]) || !Same(x[1], x[0]) {
			t.Errorf("nil and empty lists are not the same: %v, %v", x[0], x[1])
		}
	}
}

// P11.1: Degree

func TestDegree(t *testing.T) {
	for _, x := range []struct {
		f    [][]api.Mono
		want int
	}{
		{nil, 0}, {[][]api.Mono{}, 0}, {fieldOf(nil), 0}, {make([][]api.Mono, 4), 0}, {make([][]api.Mono, 99), 0},
		{fieldOf(list(mono(5, 0))), 0}, {fieldOf(list(mono(1, 1), mono(1, 0))), 1}, {fieldOf(list(mono(1, 8), mono(1, 0))), 8}, {fieldOf(list(mono(-7, 5))), 5},
		{linear(4), 1}, {fieldOf(list(mono(1, 1, 1)), list(mono(1, 0, 1))), 2}, {fieldOf(list(mono(1, 0, 1)), list(mono(1, 1, 1))), 2}, {fieldOf(list(mono(1, 2, 4), mono(1, 0, 5)), nil), 6},
		{fieldOf(list(mono(1, 1, 2)), list(mono(1, 2, 1))), 3}, {slices.Repeat(fieldOf(list(mono(1, 2, 2, 2, 2))), 4), 8},
		// No fields, of polynomials that are ones of their own numbers of variables.
		{fieldOf(list(mono(1, 2)), list(mono(1, 0, 3)), list(mono(1, 1, 1, 1, 1))), 4}, {fieldOf(list(mono(1, 1, 1, 1, 1)), list(mono(1, 2)), nil), 4}, {fieldOf(list(mono(1, 2, 3))), 5},
		{append(linear(4), list(mono(1, 7))), 7}, {append(make([][]api.Mono, 99), list(mono(1, 0, 6, 0))), 6},
		// No polynomials.
		{fieldOf(list(mono(1, 9))), 0}, {fieldOf(list(mono(1, 9)), list(mono(1, 1, 1))), 2}, {fieldOf(list(mono(1, 1, 1)), list(mono(1, 1, 2, 0, 0, 0))), 2}, {fieldOf(list(mono(1)), list(mono(0, 1))), 0},
		{fieldOf(list(mono(1, 1, 0), mono(1, 4, 0)), list(mono(1, 0, 3), mono(1, 0, 2))), 3}, {fieldOf(some(2, 25), list(mono(1, 0, 1))), 1},
	} {
		if got := Degree(x.f); got != x.want {
			t.Errorf("Degree(%s) = %d, not %d", text(x.f), got, x.want)
		}
	}
}

// TestDegreeAt has the greatest degree at each index, with what no polynomial
// is at another one.
func TestDegreeAt(t *testing.T) {
	for n := 1; n <= api.MaxDim; n++ {
		for k := 1; k <= api.MaxDeg; k++ {
			for i := range n {
				top := list(mono(-1, with(make([]int, n), i, k)...))
				f := with(fields(n)["constant"], i, top)
				if got := Degree(f); got != k {
					t.Errorf("Degree(%s) = %d, not %d", text(f), got, k)
				}
				for j := range n {
					if j == i {
						continue
					}
					for rule, p := range noPolys(n) {
						if len(p[0].E) < n || len(p[0].E) > n {
							continue // perhaps a polynomial of its own number of variables
						}
						if got := Degree(with(f, j, p)); got != k {
							t.Errorf("at %d %s: Degree = %d, not %d", j, rule, got, k)
						}
					}
				}
			}
		}
	}
}
