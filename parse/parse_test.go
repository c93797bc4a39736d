package parse

import (
	"fmt"
	"math"
	"slices"
	"strings"
	"testing"

	"fathomline/api"
)

const (
	all     = math.MaxUint64
	maxBits = 64 * api.MaxWords
	maxExp  = api.MaxExp
)

// of is m times 2^exp, as it is written: valid if m is odd.
func of(m, exp int64) api.Num {
	if m < 0 {
		return api.Num{Neg: true, Exp: exp, W: []uint64{-uint64(m)}}
	}
	return api.Num{Exp: exp, W: []uint64{uint64(m)}}
}

// odd is the valid number m times 2^exp.
func odd(m, exp int64) api.Num {
	if m == 0 {
		return api.Num{}
	}
	for m%2 == 0 {
		m, exp = m/2, exp+1
	}
	return of(m, exp)
}

// minus is -x; a 0 stays as it is.
func minus(x api.Num) api.Num {
	x.Neg = !x.Neg && len(x.W) > 0
	return x
}

// wide is 2^(bits-1) + 1 times 2^exp: that many bits, the outer ones 1.
func wide(bits int, exp int64) api.Num {
	w := make([]uint64, (bits+63)/64)
	w[(bits-1)/64] = 1 << ((bits - 1) % 64)
	w[0] |= 1
	return api.Num{Exp: exp, W: w}
}

// full is 2^bits - 1 times 2^exp.
func full(bits int, exp int64) api.Num {
	w := slices.Repeat([]uint64{all}, (bits+63)/64)
	w[len(w)-1] >>= uint(64*len(w) - bits)
	return api.Num{Exp: exp, W: w}
}

func monoOf(c api.Num, e ...int) api.Mono { return api.Mono{C: c, E: e} }

// mono has the coefficient c.
func mono(c int64, e ...int) api.Mono { return monoOf(odd(c, 0), e...) }

func list(l ...api.Mono) []api.Mono { return l }

func fieldOf(f ...[]api.Mono) [][]api.Mono { return f }

// exps are all exponents of n variables whose sum is at most most, in
// descending order.
func exps(n, most int) [][]int {
	if n == 0 {
		return [][]int{nil}
	}
	var l [][]int
	for k := most; k >= 0; k-- {
		for _, e := range exps(n-1, most-k) {
			l = append(l, append([]int{k}, e...))
		}
	}
	return l
}

// some is the polynomial of the given number of monomials of n variables, with
// the coefficients 1, 2, 3, and so on.
func some(n, terms int) []api.Mono {
	var p []api.Mono
	for i, e := range exps(n, api.MaxDeg)[:terms] {
		p = append(p, mono(int64(i+1), e...))
	}
	return p
}

// single is 1 for variable i of n, and 0 for the others.
func single(n, i int) []int {
	e := make([]int, n)
	e[i] = 1
	return e
}

// with is l with one element replaced.
func with[T any](l []T, i int, x T) []T {
	l = slices.Clone(l)
	l[i] = x
	return l
}

// linear is the field of n polynomials whose coefficients are all different
// primes: x1' = 2 x1 + 3 x2 + .., and so on.
func linear(n int) [][]api.Mono {
	primes := []int64{2, 3, 5, 7, 11, 13, 17, 19, 23, 29, 31, 37, 41, 43, 47, 53}
	f := make([][]api.Mono, n)
	for i := range n {
		for j := range n {
			f[i] = append(f[i], mono(primes[n*i+j], single(n, j)...))
		}
	}
	return f
}

// fields are fields of n polynomials, of which no two are the same.
func fields(n int) map[string][][]api.Mono {
	constant := list(mono(-3, make([]int, n)...))
	l := map[string][][]api.Mono{
		"empty":     make([][]api.Mono, n),
		"constant":  slices.Repeat([][]api.Mono{constant}, n),
		"linear":    linear(n),
		"all terms": slices.Repeat([][]api.Mono{some(n, min(api.MaxTerms, len(exps(n, api.MaxDeg))))}, n),
	}
	for i := range n {
		l[fmt.Sprintf("empty but at %d", i)] = with(l["empty"], i, some(n, 5))
		l[fmt.Sprintf("linear, empty at %d", i)] = with(l["linear"], i, nil)
	}
	return l
}

func equal(a, b api.Num) bool {
	return a.Neg == b.Neg && a.Exp == b.Exp && slices.Equal(a.W, b.W)
}

func equalPoly(a, b []api.Mono) bool {
	return slices.EqualFunc(a, b, func(x, y api.Mono) bool { return equal(x.C, y.C) && slices.Equal(x.E, y.E) })
}

func equalField(f, g [][]api.Mono) bool { return slices.EqualFunc(f, g, equalPoly) }

// Texts are for messages.

func numText(x api.Num) string {
	sign := ""
	if x.Neg {
		sign = "-"
	}
	if len(x.W) > 2 {
		return fmt.Sprintf("%s(%d words)p%d", sign, len(x.W), x.Exp)
	}
	return fmt.Sprintf("%s%dp%d", sign, x.W, x.Exp)
}

func textsOf[T any](l []T, text func(x T) string) string {
	var texts []string
	for i, x := range l {
		if i == 30 {
			texts = append(texts, fmt.Sprintf("and %d more", len(l)-i))
			break
		}
		texts = append(texts, text(x))
	}
	return "{" + strings.Join(texts, ", ") + "}"
}

func monoMessage(m api.Mono) string { return numText(m.C) + fmt.Sprint(m.E) }

func polyMessage(p []api.Mono) string { return textsOf(p, monoMessage) }

func text(f [][]api.Mono) string { return textsOf(f, polyMessage) }

// invalid are numbers that are not valid (P2.1), by the reason.
func invalid() map[string]api.Num {
	return map[string]api.Num{
		"0 that is negated":      {Neg: true},
		"0 with an exponent":     {Exp: 1},
		"0 of one word":          {W: []uint64{0}},
		"highest word 0":         {W: []uint64{1, 0}},
		"lowest bit 0":           of(2, 0),
		"one word too many":      wide(maxBits+1, 0),
		"exponent above MaxExp":  of(1, maxExp+1),
		"exponent below -MaxExp": of(-1, -maxExp-1),
		"greatest exponent":      of(1, math.MaxInt64),
		"least exponent":         of(-1, math.MinInt64),
	}
}

// noPolys are lists that are no polynomials of n variables, by the reason.
func noPolys(n int) map[string][]api.Mono {
	high, low := slices.Repeat([]int{1}, n), make([]int, n)
	high[0] = 2
	l := map[string][]api.Mono{
		"C 0":                        list(mono(0, high...)),
		"degree above MaxDeg":        list(mono(1, with(low, n-1, api.MaxDeg+1)...)),
		"exponent below 0":           list(mono(1, with(low, n-1, -1)...)),
		"greatest exponent":          list(mono(1, with(low, 0, math.MaxInt)...)),
		"ascending":                  list(mono(1, low...), mono(1, high...)),
		"twice the same":             list(mono(1, low...), mono(2, low...)),
		"no exponents":               list(mono(1)),
		"of one variable less":       list(mono(1, high[:n-1]...)),
		"of one variable more":       list(mono(1, append(slices.Clone(low), 1)...)),
		"of one more, which is 0":    list(mono(1, append(slices.Clone(high), 0)...)),
		"of MaxDim + 1":              list(mono(1, make([]int, api.MaxDim+1)...)),
		"the last of one more":       list(mono(1, high...), mono(1, append(slices.Clone(low), 0)...)),
		"more than MaxTerms of them": slices.Repeat(list(mono(1, low...)), api.MaxTerms+1),
	}
	if len(exps(n, api.MaxDeg)) > api.MaxTerms {
		l["more than MaxTerms, in order"] = some(n, api.MaxTerms+1)
	}
	for rule, x := range invalid() {
		l["C: "+rule] = list(mono(1, high...), monoOf(x, low...))
	}
	return l
}

// noFields are what no fields are, by the reason.
func noFields() map[string][][]api.Mono {
	l := map[string][][]api.Mono{"nil": nil, "no polynomial": {}}
	for n := api.MaxDim + 1; n < 5*api.MaxDim; n++ {
		l[fmt.Sprintf("%d, empty", n)] = make([][]api.Mono, n)
		l[fmt.Sprintf("%d of as many variables", n)] = slices.Repeat(fieldOf(list(mono(1, make([]int, n)...))), n)
		l[fmt.Sprintf("%d of MaxDim variables", n)] = slices.Repeat(fieldOf(some(api.MaxDim, 5)), n)
	}
	for n := 1; n <= api.MaxDim; n++ {
		for k := 1; k <= api.MaxDim+1; k++ {
			if k == n {
				continue
			}
			l[fmt.Sprintf("%d of %d variables", n, k)] = slices.Repeat(fieldOf(list(mono(1, make([]int, k)...))), n)
			if k <= api.MaxDim {
				l[fmt.Sprintf("%d of %d variables, linear", n, k)] = slices.Repeat(linear(k)[:1], n)
			}
		}
		for i := range n {
			for rule, p := range noPolys(n) {
				for name, f := range fields(n) {
					l[fmt.Sprintf("%d, %s, but at %d: %s", n, name, i, rule)] = with(f, i, p)
				}
			}
		}
	}
	return l
}

// lines are a text with these right-hand sides.
func lines(rights ...string) string {
	text := ""
	for i, right := range rights {
		text += fmt.Sprintf("x%d' = %s\n", i+1, right)
	}
	return text
}

// check expects the result, or an error with its offset and no field beside it.
func check(t *testing.T, s string, want [][]api.Mono, wantAt int, wantErr api.Errno) {
	t.Helper()
	if got, at, err := Parse(s); err != wantErr || at != wantAt || !equalField(got, want) {
		t.Errorf("Parse(%q) = %s, %d, %d, not %s, %d, %d", s, text(got), at, err, text(want), wantAt, wantErr)
	}
}

// checkField expects a field.
func checkField(t *testing.T, s string, want [][]api.Mono) {
	t.Helper()
	check(t, s, want, 0, api.OK)
}

// checkText expects that the text goes wrong at this offset.
func checkText(t *testing.T, s string, at int) {
	t.Helper()
	check(t, s, nil, at, api.ErrText)
}
