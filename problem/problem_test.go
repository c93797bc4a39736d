package problem

import (
	"fmt"
	"maps"
	"math"
	"slices"
	"strings"
	"testing"

	"fathomline/api"
)

const (
	all     = math.MaxUint64
	maxBits = 64 * api.MaxWords
	maxExp  = api.MaxExp
)

// of is m times 2^exp, as it is written: valid if m is odd.
func of(m, exp int64) api.Num {
	if m < 0 {
		return api.Num{Neg: true, Exp: exp, W: []uint64{-uint64(m)}}
	}
	return api.Num{Exp: exp, W: []uint64{uint64(m)}}
}

// odd is the valid number m times 2^exp.
func odd(m, exp int64) api.Num {
	if m == 0 {
		return api.Num{}
	}
	for m%2 == 0 {
		m, exp = m/2, exp+1
	}
	return of(m, exp)
}

// minus is -x; a 0 stays as it is.
func minus(x api.Num) api.Num {
	x.Neg = !x.Neg && len(x.W) > 0
	return x
}

// wide is 2^(bits-1) + 1 times 2^exp: that many bits, the outer ones 1.
func wide(bits int, exp int64) api.Num {
	w := make([]uint64, (bits+63)/64)
	w[(bits-1)/64] = 1 << ((bits - 1) % 64)
	w[0] |= 1
	return api.Num{Exp: exp, W: w}
}

// full is 2^bits - 1 times 2^exp.
func full(bits int, exp int64) api.Num {
	w := slices.Repeat([]uint64{all}, (bits+63)/64)
	w[len(w)-1] >>= uint(64*len(w) - bits)
	return api.Num{Exp: exp, W: w}
}

func monoOf(c api.Num, e ...int) api.Mono { return api.Mono{C: c, E: e} }

// mono has the coefficient c.
func mono(c int64, e ...int) api.Mono { return monoOf(odd(c, 0), e...) }

func list(l ...api.Mono) []api.Mono { return l }

func fieldOf(f ...[]api.Mono) [][]api.Mono { return f }

// exps are all exponents of n variables whose sum is at most most, in
// descending order.
func exps(n, most int) [][]int {
	if n == 0 {
		return [][]int{nil}
	}
	var l [][]int
	for k := most; k >= 0; k-- {
		for _, e := range exps(n-1, most-k) {
			l = append(l, append([]int{k}, e...))
		}
	}
	return l
}

// some is the polynomial of the given number of monomials of n variables, with
// the coefficients 1, 2, 3, and so on.
func some(n, terms int) []api.Mono {
	var p []api.Mono
	for i, e := range exps(n, api.MaxDeg)[:terms] {
		p = append(p, mono(int64(i+1), e...))
	}
	return p
}

// single is 1 for variable i of n, and 0 for the others.
func single(n, i int) []int {
	e := make([]int, n)
	e[i] = 1
	return e
}

// with is l with one element replaced.
func with[T any](l []T, i int, x T) []T {
	l = slices.Clone(l)
	l[i] = x
	return l
}

// linear is the field of n polynomials whose coefficients are all different
// primes: x1' = 2 x1 + 3 x2 + .., and so on.
func linear(n int) [][]api.Mono {
	primes := []int64{2, 3, 5, 7, 11, 13, 17, 19, 23, 29, 31, 37, 41, 43, 47, 53}
	f := make([][]api.Mono, n)
	for i := range n {
		for j := range n {
			f[i] = append(f[i], mono(primes[n*i+j], single(n, j)...))
		}
	}
	return f
}

// fields are fields of n polynomials, of which no two are the same.
func fields(n int) map[string][][]api.Mono {
	constant := list(mono(-3, make([]int, n)...))
	l := map[string][][]api.Mono{
		"empty":     make([][]api.Mono, n),
		"constant":  slices.Repeat([][]api.Mono{constant}, n),
		"linear":    linear(n),
		"all terms": slices.Repeat([][]api.Mono{some(n, min(api.MaxTerms, len(exps(n, api.MaxDeg))))}, n),
	}
	for i := range n {
		l[fmt.Sprintf("empty but at %d", i)] = with(l["empty"], i, some(n, 5))
		l[fmt.Sprintf("linear, empty at %d", i)] = with(l["linear"], i, nil)
	}
	return l
}

func equal(a, b api.Num) bool {
	return a.Neg == b.Neg && a.Exp == b.Exp && slices.Equal(a.W, b.W)
}

func equalPoly(a, b []api.Mono) bool {
	return slices.EqualFunc(a, b, func(x, y api.Mono) bool { return equal(x.C, y.C) && slices.Equal(x.E, y.E) })
}

func equalField(f, g [][]api.Mono) bool { return slices.EqualFunc(f, g, equalPoly) }

func equalBox(a, b []api.Iv) bool {
	return slices.EqualFunc(a, b, func(x, y api.Iv) bool { return equal(x.Lo, y.Lo) && equal(x.Hi, y.Hi) })
}

func equalProblem(p, q api.Problem) bool {
	return equalField(p.Field, q.Field) && equalBox(p.Box, q.Box) && equal(p.Until, q.Until) && equal(p.Most, q.Most) && equal(p.Least, q.Least) && p.Prec == q.Prec && p.Order == q.Order && p.Budget == q.Budget
}

// Texts are for messages.

func numText(x api.Num) string {
	sign := ""
	if x.Neg {
		sign = "-"
	}
	if len(x.W) > 2 {
		return fmt.Sprintf("%s(%d words)p%d", sign, len(x.W), x.Exp)
	}
	return fmt.Sprintf("%s%dp%d", sign, x.W, x.Exp)
}

func textsOf[T any](l []T, text func(x T) string) string {
	var texts []string
	for i, x := range l {
		if i == 30 {
			texts = append(texts, fmt.Sprintf("and %d more", len(l)-i))
			break
		}
		texts = append(texts, text(x))
	}
	return "{" + strings.Join(texts, ", ") + "}"
}

func monoMessage(m api.Mono) string { return numText(m.C) + fmt.Sprint(m.E) }

func polyMessage(p []api.Mono) string { return textsOf(p, monoMessage) }

func numbersText(l []api.Num) string { return textsOf(l, numText) }

// message is a problem for a message.
func message(p api.Problem) string {
	interval := func(v api.Iv) string { return "[" + numText(v.Lo) + ", " + numText(v.Hi) + "]" }
	return fmt.Sprintf("%s in %s, %s, %d, %d, %d", textsOf(p.Field, polyMessage), textsOf(p.Box, interval), numbersText([]api.Num{p.Until, p.Most, p.Least}), p.Prec, p.Order, p.Budget)
}

// invalid are numbers that are not valid (P2.1), by the reason.
func invalid() map[string]api.Num {
	return map[string]api.Num{
		"0 that is negated":      {Neg: true},
		"0 with an exponent":     {Exp: 1},
		"0 of one word":          {W: []uint64{0}},
		"highest word 0":         {W: []uint64{1, 0}},
		"lowest bit 0":           of(2, 0),
		"one word too many":      wide(maxBits+1, 0),
		"exponent above MaxExp":  of(1, maxExp+1),
		"exponent below -MaxExp": of(-1, -maxExp-1),
		"greatest exponent":      of(1, math.MaxInt64),
		"least exponent":         of(-1, math.MinInt64),
	}
}

// noPolys are lists that are no polynomials of n variables, by the reason.
func noPolys(n int) map[string][]api.Mono {
	high, low := slices.Repeat([]int{1}, n), make([]int, n)
	high[0] = 2
	l := map[string][]api.Mono{
		"C 0":                        list(mono(0, high...)),
		"degree above MaxDeg":        list(mono(1, with(low, n-1, api.MaxDeg+1)...)),
		"exponent below 0":           list(mono(1, with(low, n-1, -1)...)),
		"greatest exponent":          list(mono(1, with(low, 0, math.MaxInt)...)),
		"ascending":                  list(mono(1, low...), mono(1, high...)),
		"twice the same":             list(mono(1, low...), mono(2, low...)),
		"no exponents":               list(mono(1)),
		"of one variable less":       list(mono(1, high[:n-1]...)),
		"of one variable more":       list(mono(1, append(slices.Clone(low), 1)...)),
		"of one more, which is 0":    list(mono(1, append(slices.Clone(high), 0)...)),
		"of MaxDim + 1":              list(mono(1, make([]int, api.MaxDim+1)...)),
		"the last of one more":       list(mono(1, high...), mono(1, append(slices.Clone(low), 0)...)),
		"more than MaxTerms of them": slices.Repeat(list(mono(1, low...)), api.MaxTerms+1),
	}
	if len(exps(n, api.MaxDeg)) > api.MaxTerms {
		l["more than MaxTerms, in order"] = some(n, api.MaxTerms+1)
	}
	for rule, x := range invalid() {
		l["C: "+rule] = list(mono(1, high...), monoOf(x, low...))
	}
	return l
}

// noFields are what no fields are, by the reason.
func noFields() map[string][][]api.Mono {
	l := map[string][][]api.Mono{"nil": nil, "no polynomial": {}}
	for n := api.MaxDim + 1; n < 5*api.MaxDim; n++ {
		l[fmt.Sprintf("%d, empty", n)] = make([][]api.Mono, n)
		l[fmt.Sprintf("%d of as many variables", n)] = slices.Repeat(fieldOf(list(mono(1, make([]int, n)...))), n)
		l[fmt.Sprintf("%d of MaxDim variables", n)] = slices.Repeat(fieldOf(some(api.MaxDim, 5)), n)
	}
	for n := 1; n <= api.MaxDim; n++ {
		for k := 1; k <= api.MaxDim+1; k++ {
			if k == n {
				continue
			}
			l[fmt.Sprintf("%d of %d variables", n, k)] = slices.Repeat(fieldOf(list(mono(1, make([]int, k)...))), n)
			if k <= api.MaxDim {
				l[fmt.Sprintf("%d of %d variables, linear", n, k)] = slices.Repeat(linear(k)[:1], n)
			}
		}
		for i := range n {
			for rule, p := range noPolys(n) {
				for name, f := range fields(n) {
					l[fmt.Sprintf("%d, %s, but at %d: %s", n, name, i, rule)] = with(f, i, p)
				}
			}
		}
	}
	return l
}

func point(x api.Num) api.Iv { return api.Iv{Lo: x, Hi: x} }

// span is the interval between two integers.
func span(lo, hi int64) api.Iv { return api.Iv{Lo: odd(lo, 0), Hi: odd(hi, 0)} }

// spans are n intervals with different ends.
func spans(n int) []api.Iv { return []api.Iv{span(-1, 2), span(0, 3), span(-5, -4), span(6, 7)}[:n] }

// simple is a problem of n variables. No two of its numbers are the same.
func simple(n int) api.Problem {
	return api.Problem{Field: linear(n), Box: spans(n), Until: of(9, 0), Most: of(1, -2), Least: of(3, -20), Prec: 64, Order: 4, Budget: 100}
}

// change replaces one component of a problem.
type change func(p *api.Problem)

// changed is the problem with this component replaced.
func changed(p api.Problem, c change) api.Problem {
	c(&p)
	return p
}

func setField(f [][]api.Mono) change { return func(p *api.Problem) { p.Field = f } }
func setBox(b []api.Iv) change       { return func(p *api.Problem) { p.Box = b } }
func setUntil(x api.Num) change      { return func(p *api.Problem) { p.Until = x } }
func setMost(x api.Num) change       { return func(p *api.Problem) { p.Most = x } }
func setLeast(x api.Num) change      { return func(p *api.Problem) { p.Least = x } }
func setPrec(n int) change           { return func(p *api.Problem) { p.Prec = n } }
func setOrder(n int) change          { return func(p *api.Problem) { p.Order = n } }
func setBudget(n int) change         { return func(p *api.Problem) { p.Budget = n } }

// positive are numbers above 0, in ascending order.
func positive() []api.Num {
	return []api.Num{
		of(1, -maxExp), of(3, -maxExp), wide(maxBits, -maxExp), of(1, -60000), of(1, -20), of(3, -20), of(7, -20), of(1, -2), of(3, -2), of(1, 0), of(5, 0),
		full(64, 0), wide(65, 0), full(65, 0), wide(maxBits, 0), full(maxBits, 0), of(1, maxExp), of(3, maxExp), full(maxBits, maxExp),
	}
}

// notPositive are 0, numbers below it and what is no valid number, by the
// reason.
func notPositive() map[string]api.Num {
	l := invalid()
	l["0"] = api.Num{}
	for _, x := range positive() {
		l["negative: "+numText(minus(x))] = minus(x)
	}
	return l
}

// rights replace one component of simple(n) so that the problem stays valid.
func rights(n int) map[string]change {
	l := map[string]change{
		"Most equal to Least": setMost(of(3, -20)), "Least equal to Most": setLeast(of(1, -2)),
		"least Prec": setPrec(api.MinPrec), "greatest Prec": setPrec(api.MaxPrec),
		"least Order": setOrder(api.MinOrder), "greatest Order": setOrder(api.MaxOrder),
		"least Budget": setBudget(1), "greatest Budget": setBudget(api.MaxBudget),
	}
	for name, f := range fields(n) {
		if name != "linear" {
			l["Field: "+name] = setField(f)
		}
	}
	for _, x := range positive() {
		l["Until: "+numText(x)] = setUntil(x)
	}
	for i := range n {
		for _, v := range []api.Iv{span(0, 0), span(-9, 9), point(of(1, -maxExp)), {Lo: minus(full(maxBits, maxExp)), Hi: full(maxBits, maxExp)}, {Lo: of(1, 0), Hi: of(65537, -16)}} {
			l[fmt.Sprintf("Box: %s, %s at %d", numText(v.Lo), numText(v.Hi), i)] = setBox(with(spans(n), i, v))
		}
	}
	return l
}

// noBoxes are what no boxes of n intervals are, by the reason.
func noBoxes(n int) map[string][]api.Iv {
	l := map[string][]api.Iv{"nil": nil, "empty": {}, "zeros, too many": make([]api.Iv, api.MaxDim+1)}
	for k := 1; k <= 2*api.MaxDim; k++ {
		if k != n {
			l[fmt.Sprintf("%d instead of %d", k, n)] = slices.Repeat([]api.Iv{span(1, 2)}, k)
		}
	}
	for i := range n {
		for _, v := range []api.Iv{span(2, 1), span(0, -1), {Lo: of(1, maxExp), Hi: of(1, 0)}, {Lo: wide(64, 0), Hi: of(1, 63)}} {
			l[fmt.Sprintf("Lo %s above Hi at %d", numText(v.Lo), i)] = with(spans(n), i, v)
		}
		for rule, x := range invalid() {
			l[fmt.Sprintf("Lo at %d: %s", i, rule)] = with(spans(n), i, api.Iv{Lo: x, Hi: of(9, 0)})
			l[fmt.Sprintf("Hi at %d: %s", i, rule)] = with(spans(n), i, api.Iv{Lo: of(-9, 0), Hi: x})
			l[fmt.Sprintf("both at %d: %s", i, rule)] = with(spans(n), i, point(x))
		}
	}
	return l
}

// wrongs replace one component of simple(n) so that the problem is not valid.
func wrongs(n int) map[string]change {
	l := map[string]change{"Field: nil": setField(nil), "Least just above Most": setLeast(wide(65, -66)), "Most just below Least": setMost(api.Num{Exp: -88, W: []uint64{all, 3<<4 - 1}})}
	for rule, p := range noPolys(n) {
		for i := range n {
			l[fmt.Sprintf("Field at %d: %s", i, rule)] = setField(with(linear(n), i, p))
		}
	}
	for k := range 2 * api.MaxDim {
		if k != n {
			l[fmt.Sprintf("Field: %d, empty", k)] = setField(make([][]api.Mono, k))
		}
		if k != n && k > 0 && k <= api.MaxDim {
			l[fmt.Sprintf("Field: %d, linear", k)] = setField(linear(k))
		}
	}
	for rule, b := range noBoxes(n) {
		l["Box: "+rule] = setBox(b)
	}
	for rule, x := range notPositive() {
		l["Until: "+rule], l["Most: "+rule], l["Least: "+rule] = setUntil(x), setMost(x), setLeast(x)
	}
	for _, k := range []int{math.MinInt, -api.MaxBudget, -64, -4, -1, 0, math.MaxInt} {
		name := fmt.Sprint(k)
		l["Prec: "+name], l["Order: "+name], l["Budget: "+name] = setPrec(k), setOrder(k), setBudget(k)
	}
	maps.Copy(l, map[string]change{
		"Prec one below": setPrec(api.MinPrec - 1), "Prec one above": setPrec(api.MaxPrec + 1),
		"Order one below": setOrder(api.MinOrder - 1), "Order one above": setOrder(api.MaxOrder + 1),
		"Budget one below": setBudget(0), "Budget one above": setBudget(api.MaxBudget + 1),
	})
	return l
}

// check expects the result, or an error with its offset and no problem beside
// it.
func check(t *testing.T, s string, want api.Problem, wantAt int, wantErr api.Errno) {
	t.Helper()
	if got, at, err := Parse(s); err != wantErr || at != wantAt || !equalProblem(got, want) {
		t.Errorf("Parse(%q) = %s, %d, %d, not %s, %d, %d", s, message(got), at, err, message(want), wantAt, wantErr)
	}
}

// checkProblem expects a problem.
func checkProblem(t *testing.T, s string, want api.Problem) {
	t.Helper()
	check(t, s, want, 0, api.OK)
}

// checkError expects an error.
func checkError(t *testing.T, s string, at int, err api.Errno) {
	t.Helper()
	check(t, s, api.Problem{}, at, err)
}

// checkText expects that the text goes wrong at this offset.
func checkText(t *testing.T, s string, at int) {
	t.Helper()
	checkError(t, s, at, api.ErrText)
}
