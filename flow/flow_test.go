package flow

import (
	"fmt"
	"math"
	"slices"
	"strings"
	"testing"

	"fathomline/api"
)

const (
	all     = math.MaxUint64
	maxBits = 64 * api.MaxWords
	maxExp  = api.MaxExp
)

// of is m times 2^exp, as it is written: valid if m is odd.
func of(m, exp int64) api.Num {
	if m < 0 {
		return api.Num{Neg: true, Exp: exp, W: []uint64{-uint64(m)}}
	}
	return api.Num{Exp: exp, W: []uint64{uint64(m)}}
}

// odd is the valid number m times 2^exp.
func odd(m, exp int64) api.Num {
	if m == 0 {
		return api.Num{}
	}
	for m%2 == 0 {
		m, exp = m/2, exp+1
	}
	return of(m, exp)
}

// minus is -x; a 0 stays as it is.
func minus(x api.Num) api.Num {
	x.Neg = !x.Neg && len(x.W) > 0
	return x
}

// wide is 2^(bits-1) + 1 times 2^exp: that many bits, the outer ones 1.
func wide(bits int, exp int64) api.Num {
	w := make([]uint64, (bits+63)/64)
	w[(bits-1)/64] = 1 << ((bits - 1) % 64)
	w[0] |= 1
	return api.Num{Exp: exp, W: w}
}

// full is 2^bits - 1 times 2^exp.
func full(bits int, exp int64) api.Num {
	w := slices.Repeat([]uint64{all}, (bits+63)/64)
	w[len(w)-1] >>= uint(64*len(w) - bits)
	return api.Num{Exp: exp, W: w}
}

func from(lo, hi api.Num) api.Iv { return api.Iv{Lo: lo, Hi: hi} }

func point(x api.Num) api.Iv { return from(x, x) }

// spanOf is the interval from lo to hi.
func spanOf(lo, hi int64) api.Iv { return from(odd(lo, 0), odd(hi, 0)) }

func intervals(a ...api.Iv) []api.Iv { return a }

// ints are the points of these values.
func ints(values ...int64) []api.Iv {
	var a []api.Iv
	for _, v := range values {
		a = append(a, spanOf(v, v))
	}
	return a
}

// same is a list of that many times x.
func same[T any](n int, x T) []T { return slices.Repeat([]T{x}, n) }

func lists(l ...[]api.Iv) [][]api.Iv { return l }

func term(c api.Num, e ...int) api.Mono { return api.Mono{C: c, E: e} }

// mono has the coefficient c.
func mono(c int64, e ...int) api.Mono { return term(odd(c, 0), e...) }

func list(l ...api.Mono) []api.Mono { return l }

func fieldOf(f ...[]api.Mono) [][]api.Mono { return f }

// exps are all exponents of n variables whose sum is at most most, in
// descending order.
func exps(n, most int) [][]int {
	if n == 0 {
		return [][]int{nil}
	}
	var l [][]int
	for k := most; k >= 0; k-- {
		for _, e := range exps(n-1, most-k) {
			l = append(l, append([]int{k}, e...))
		}
	}
	return l
}

// some is the polynomial of the given number of monomials of n variables, with
// the coefficients 1, 2, 3, and so on.
func some(n, terms int) []api.Mono {
	var p []api.Mono
	for i, e := range exps(n, api.MaxDeg)[:terms] {
		p = append(p, mono(int64(i+1), e...))
	}
	return p
}

// single is k for variable i of n, and 0 for the others.
func single(n, i, k int) []int {
	e := make([]int, n)
	e[i] = k
	return e
}

// constant is the polynomial c of n variables.
func constant(n int, c int64) []api.Mono { return list(mono(c, make([]int, n)...)) }

// with is l with one element replaced.
func with[T any](l []T, i int, x T) []T {
	l = slices.Clone(l)
	l[i] = x
	return l
}

// linear is the field of n polynomials whose coefficients are all different
// primes: x1' = 2 x1 + 3 x2 + .., and so on.
func linear(n int) [][]api.Mono {
	primes := []int64{2, 3, 5, 7, 11, 13, 17, 19, 23, 29, 31, 37, 41, 43, 47, 53}
	f := make([][]api.Mono, n)
	for i := range n {
		for j := range n {
			f[i] = append(f[i], mono(primes[n*i+j], single(n, j, 1)...))
		}
	}
	return f
}

// fields are fields of n polynomials.
func fields(n int) map[string][][]api.Mono {
	l := map[string][][]api.Mono{
		"empty":     make([][]api.Mono, n),
		"constant":  same(n, constant(n, -3)),
		"linear":    linear(n),
		"squares":   make([][]api.Mono, n),
		"long":      same(n, list(term(full(maxBits, -maxBits), single(n, n-1, 1)...))),
		"all terms": same(n, some(n, min(api.MaxTerms, len(exps(n, api.MaxDeg))))),
	}
	for i := range n {
		l["squares"][i] = list(mono(1, single(n, n-1-i, 2)...))
		l[fmt.Sprintf("linear, empty at %d", i)] = with(l["linear"], i, nil)
	}
	return l
}

func equal(a, b api.Num) bool {
	return a.Neg == b.Neg && a.Exp == b.Exp && slices.Equal(a.W, b.W)
}

func equalIv(a, b api.Iv) bool { return equal(a.Lo, b.Lo) && equal(a.Hi, b.Hi) }

func equalBox(a, b []api.Iv) bool { return slices.EqualFunc(a, b, equalIv) }

func equalBoxes(a, b [][]api.Iv) bool { return slices.EqualFunc(a, b, equalBox) }

// Texts are for messages.

func numText(x api.Num) string {
	sign := ""
	if x.Neg {
		sign = "-"
	}
	if len(x.W) > 2 {
		return fmt.Sprintf("%s(%d words)p%d", sign, len(x.W), x.Exp)
	}
	return fmt.Sprintf("%s%dp%d", sign, x.W, x.Exp)
}

func textsOf[T any](l []T, text func(x T) string) string {
	var texts []string
	for i, x := range l {
		if i == 30 {
			texts = append(texts, fmt.Sprintf("and %d more", len(l)-i))
			break
		}
		texts = append(texts, text(x))
	}
	return "{" + strings.Join(texts, ", ") + "}"
}

func ivText(a api.Iv) string { return "[" + numText(a.Lo) + ", " + numText(a.Hi) + "]" }

func text(a []api.Iv) string { return textsOf(a, ivText) }

func texts(l [][]api.Iv) string { return textsOf(l, text) }

func polyText(p []api.Mono) string {
	return textsOf(p, func(m api.Mono) string { return numText(m.C) + fmt.Sprint(m.E) })
}

func fieldText(f [][]api.Mono) string { return textsOf(f, polyText) }

// invalid are numbers that are not valid (P2.1), by the reason.
func invalid() map[string]api.Num {
	return map[string]api.Num{
		"0 that is negated":      {Neg: true},
		"0 with an exponent":     {Exp: 1},
		"0 of one word":          {W: []uint64{0}},
		"highest word 0":         {W: []uint64{1, 0}},
		"lowest bit 0":           of(2, 0),
		"one word too many":      wide(maxBits+1, 0),
		"exponent above MaxExp":  of(1, maxExp+1),
		"exponent below -MaxExp": of(-1, -maxExp-1),
		"greatest exponent":      of(1, math.MaxInt64),
		"least exponent":         of(-1, math.MinInt64),
	}
}

// noIvs are intervals that are not valid, by the reason.
func noIvs() map[string]api.Iv {
	l := map[string]api.Iv{"Lo greater than Hi": spanOf(2, 1), "Lo greater than Hi, below 0": spanOf(-1, -2), "Lo greater, 0": spanOf(0, -1), "Lo far greater": from(of(1, maxExp), of(1, -maxExp))}
	for rule, x := range invalid() {
		l["Lo: "+rule] = from(x, of(1, maxExp))
		l["Hi: "+rule] = from(of(-1, maxExp), x)
		l["both: "+rule] = point(x)
	}
	return l
}

// noPolys are lists that are no polynomials of n variables, by the reason.
func noPolys(n int) map[string][]api.Mono {
	high, low := same(n, 1), make([]int, n)
	high[0] = 2
	l := map[string][]api.Mono{
		"C 0":                        list(mono(0, high...)),
		"degree above MaxDeg":        list(mono(1, with(low, n-1, api.MaxDeg+1)...)),
		"exponent below 0":           list(mono(1, with(low, n-1, -1)...)),
		"greatest exponent":          list(mono(1, with(low, 0, math.MaxInt)...)),
		"ascending":                  list(mono(1, low...), mono(1, high...)),
		"twice the same":             list(mono(1, low...), mono(2, low...)),
		"no exponents":               list(mono(1)),
		"of one variable less":       list(mono(1, high[:n-1]...)),
		"of one variable more":       list(mono(1, append(slices.Clone(low), 1)...)),
		"of one more, which is 0":    list(mono(1, append(slices.Clone(high), 0)...)),
		"of MaxDim + 1":              constant(api.MaxDim+1, 1),
		"the last of one more":       list(mono(1, high...), mono(1, append(slices.Clone(low), 0)...)),
		"more than MaxTerms of them": same(api.MaxTerms+1, mono(1, low...)),
	}
	if len(exps(n, api.MaxDeg)) > api.MaxTerms {
		l["more than MaxTerms, in order"] = some(n, api.MaxTerms+1)
	}
	for rule, x := range invalid() {
		l["C: "+rule] = list(mono(1, high...), term(x, low...))
	}
	return l
}

// noFields are what no fields are, by the reason.
func noFields() map[string][][]api.Mono {
	l := map[string][][]api.Mono{"nil": nil, "no polynomial": {}}
	for n := api.MaxDim + 1; n < 5*api.MaxDim; n++ {
		l[fmt.Sprintf("%d, empty", n)] = make([][]api.Mono, n)
		l[fmt.Sprintf("%d of as many variables", n)] = same(n, constant(n, 1))
		l[fmt.Sprintf("%d of MaxDim variables", n)] = same(n, some(api.MaxDim, 5))
	}
	for n := 1; n <= api.MaxDim; n++ {
		for k := 1; k <= api.MaxDim+1; k++ {
			if k != n {
				l[fmt.Sprintf("%d of %d variables", n, k)] = same(n, constant(k, 1))
			}
		}
		for i := range n {
			for rule, p := range noPolys(n) {
				for _, name := range []string{"empty", "linear"} {
					l[fmt.Sprintf("%d, %s, but at %d: %s", n, name, i, rule)] = with(fields(n)[name], i, p)
				}
			}
		}
	}
	return l
}

// noOrders are orders that are out of range.
func noOrders() []int {
	return []int{-1, -2, -api.MaxOrder, api.MaxOrder + 1, api.MaxOrder + 2, 2 * api.MaxOrder, 1<<32 + 1, -1 << 32, math.MaxInt32, math.MaxInt - 1, math.MaxInt, math.MinInt, math.MinInt + 1}
}

// noPrecs are values of prec that are out of range.
func noPrecs() []int {
	return []int{api.MinPrec - 1, api.MaxPrec + 1, 0, 1, -1, -api.MinPrec, -api.MaxPrec, 1<<32 + api.MinPrec, math.MaxInt32, math.MaxInt, math.MinInt}
}

// precs are values in range, both limits among them.
func precs() []int {
	return []int{api.MinPrec, api.MinPrec + 1, 24, 64, 65, api.MaxPrec - 1, api.MaxPrec}
}

// checkSeries expects the result, or an error and nothing beside it.
func checkSeries(t *testing.T, f [][]api.Mono, x []api.Iv, order, prec int, want [][]api.Iv, wantErr api.Errno) {
	t.Helper()
	if got, err := Series(f, x, order, prec); err != wantErr || !equalBoxes(got, want) {
		t.Errorf("Series(%s, %s, %d, %d) = %s, %d, not %s, %d", fieldText(f), text(x), order, prec, texts(got), err, texts(want), wantErr)
	}
}

// seriesFails expects an error and nothing beside it.
func seriesFails(t *testing.T, f [][]api.Mono, x []api.Iv, order, prec int, wantErr api.Errno, what string) {
	t.Helper()
	if got, err := Series(f, x, order, prec); err != wantErr || len(got) > 0 {
		t.Errorf("%s: Series(%s, %s, %d, %d) = %s, %d, not %d", what, fieldText(f), text(x), order, prec, texts(got), err, wantErr)
	}
}

func checkSum(t *testing.T, l [][]api.Iv, h api.Iv, prec int, want []api.Iv, wantErr api.Errno) {
	t.Helper()
	if got, err := Sum(l, h, prec); err != wantErr || !equalBox(got, want) {
		t.Errorf("Sum(%s, %s, %d) = %s, %d, not %s, %d", texts(l), ivText(h), prec, text(got), err, text(want), wantErr)
	}
}

// sumFails expects an error and nothing beside it.
func sumFails(t *testing.T, l [][]api.Iv, h api.Iv, prec int, wantErr api.Errno, what string) {
	t.Helper()
	if got, err := Sum(l, h, prec); err != wantErr || len(got) > 0 {
		t.Errorf("%s: Sum(%s, %s, %d) = %s, %d, not %d", what, texts(l), ivText(h), prec, text(got), err, wantErr)
	}
}
