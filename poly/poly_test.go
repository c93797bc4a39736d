package poly

import (
	"fmt"
	"math"
	"slices"
	"strings"
	"testing"

	"fathomline/api"
)

const (
	all     = math.MaxUint64
	maxBits = 64 * api.MaxWords
	maxExp  = api.MaxExp
)

// of is m times 2^exp, as it is written: valid if m is odd.
func of(m, exp int64) api.Num {
	if m < 0 {
		return api.Num{Neg: true, Exp: exp, W: []uint64{-uint64(m)}}
	}
	return api.Num{Exp: exp, W: []uint64{uint64(m)}}
}

// odd is the valid number m times 2^exp.
func odd(m, exp int64) api.Num {
	if m == 0 {
		return api.Num{}
	}
	for m%2 == 0 {
		m, exp = m/2, exp+1
	}
	return of(m, exp)
}

// minus is -x; a 0 stays as it is.
func minus(x api.Num) api.Num {
	x.Neg = !x.Neg && len(x.W) > 0
	return x
}

// wide is 2^(bits-1) + 1 times 2^exp: that many bits, the outer ones 1.
func wide(bits int, exp int64) api.Num {
	w := make([]uint64, (bits+63)/64)
	w[(bits-1)/64] = 1 << ((bits - 1) % 64)
	w[0] |= 1
	return api.Num{Exp: exp, W: w}
}

// full is 2^bits - 1 times 2^exp.
func full(bits int, exp int64) api.Num {
	w := slices.Repeat([]uint64{all}, (bits+63)/64)
	w[len(w)-1] >>= uint(64*len(w) - bits)
	return api.Num{Exp: exp, W: w}
}

func term(c api.Num, e ...int) api.Mono { return api.Mono{C: c, E: e} }

// mono has the coefficient c.
func mono(c int64, e ...int) api.Mono { return term(odd(c, 0), e...) }

func list(l ...api.Mono) []api.Mono { return l }

// exps are all exponents of n variables whose sum is at most most, in
// descending order.
func exps(n, most int) [][]int {
	if n == 0 {
		return [][]int{nil}
	}
	var l [][]int
	for k := most; k >= 0; k-- {
		for _, e := range exps(n-1, most-k) {
			l = append(l, append([]int{k}, e...))
		}
	}
	return l
}

// some is the polynomial of the given number of monomials of n variables, with
// the coefficients 1, 2, 3, and so on.
func some(n, terms int) []api.Mono {
	var p []api.Mono
	for i, e := range exps(n, api.MaxDeg)[:terms] {
		p = append(p, mono(int64(i+1), e...))
	}
	return p
}

// most is how many monomials of n variables can be in a polynomial.
func most(n int) int { return min(len(exps(n, api.MaxDeg)), api.MaxTerms) }

// sorted is l in descending order of the exponents.
func sorted(l []api.Mono) []api.Mono {
	l = slices.Clone(l)
	slices.SortStableFunc(l, func(a, b api.Mono) int { return slices.Compare(b.E, a.E) })
	return l
}

// reversed is l from its end.
func reversed(l []api.Mono) []api.Mono {
	l = slices.Clone(l)
	slices.Reverse(l)
	return l
}

// but is l with another element at one index.
func but(l []api.Mono, i int, m api.Mono) []api.Mono {
	l = slices.Clone(l)
	l[i] = m
	return l
}

// with is l with another element before that at the index.
func with(l []api.Mono, i int, m ...api.Mono) []api.Mono {
	return slices.Insert(slices.Clone(l), i, m...)
}

// orders are all orders of l.
func orders(l []api.Mono) [][]api.Mono {
	if len(l) == 0 {
		return [][]api.Mono{nil}
	}
	var found [][]api.Mono
	for _, rest := range orders(l[1:]) {
		for i := range l {
			found = append(found, with(rest, i, l[0]))
		}
	}
	return found
}

func equal(a, b api.Num) bool {
	return a.Neg == b.Neg && a.Exp == b.Exp && slices.Equal(a.W, b.W)
}

func isZero(x api.Num) bool { return equal(x, api.Num{}) }

func equalList(a, b []api.Mono) bool {
	return slices.EqualFunc(a, b, func(x, y api.Mono) bool { return equal(x.C, y.C) && slices.Equal(x.E, y.E) })
}

// text is for messages.
func text(l []api.Mono) string {
	var parts []string
	for i, m := range l {
		if i == 30 {
			parts = append(parts, fmt.Sprintf("and %d more", len(l)-i))
			break
		}
		parts = append(parts, numText(m.C)+fmt.Sprint(m.E))
	}
	return strings.Join(parts, " + ")
}

func numText(x api.Num) string {
	sign := ""
	if x.Neg {
		sign = "-"
	}
	if len(x.W) > 2 {
		return fmt.Sprintf("%s(%d words)p%d", sign, len(x.W), x.Exp)
	}
	return fmt.Sprintf("%s%dp%d", sign, x.W, x.Exp)
}

// yields expects a polynomial.
func yields(t *testing.T, what string, got []api.Mono, err api.Errno, want []api.Mono) {
	t.Helper()
	if err != api.OK || !equalList(got, want) {
		t.Errorf("%s: %s, %d, not %s", what, text(got), err, text(want))
	}
}

// fails expects an error and nothing beside it.
func fails(t *testing.T, what string, got []api.Mono, err, want api.Errno) {
	t.Helper()
	if err != want || len(got) != 0 {
		t.Errorf("%s: %s, %d, not %d", what, text(got), err, want)
	}
}

// noDims are numbers of variables that are out of range.
func noDims() []int {
	return []int{0, -1, -api.MaxDim, api.MaxDim + 1, 2 * api.MaxDim, 9, 1<<32 + 1, math.MaxInt, math.MinInt}
}

// invalid are numbers that are not valid (P2.1), by the reason.
func invalid() map[string]api.Num {
	return map[string]api.Num{
		"0 that is negated":      {Neg: true},
		"0 with an exponent":     {Exp: 1},
		"0 of one word":          {W: []uint64{0}},
		"highest word 0":         {W: []uint64{1, 0}},
		"lowest bit 0":           of(2, 0),
		"one word too many":      wide(maxBits+1, 0),
		"exponent above MaxExp":  of(1, maxExp+1),
		"exponent below -MaxExp": of(-1, -maxExp-1),
		"greatest exponent":      of(1, math.MaxInt64),
		"least exponent":         of(-1, math.MinInt64),
	}
}

// noExps are exponents that those of no monomial of n variables are, by the
// reason. Their number is n, if not the reason says otherwise.
func noExps(n int) map[string][]int {
	l := map[string][]int{
		"none":                 {},
		"one too few":          make([]int, n-1),
		"one too many":         make([]int, n+1),
		"one too many, not 0":  append(make([]int, n), 1),
		"MaxDim + 1":           make([]int, api.MaxDim+1),
		"very many":            make([]int, 1<<16),
		"all MaxDeg + 1":       slices.Repeat([]int{api.MaxDeg + 1}, n),
		"all -1":               slices.Repeat([]int{-1}, n),
		"all the greatest":     slices.Repeat([]int{math.MaxInt}, n),
		"all the least":        slices.Repeat([]int{math.MinInt}, n),
		"all 2^62":             slices.Repeat([]int{1 << 62}, n),
		"all 2^31":             slices.Repeat([]int{1 << 31}, n),
		"sum MaxDeg+1, spread": append(slices.Repeat([]int{2}, n-1), api.MaxDeg+1-2*(n-1)),
	}
	for i := range n {
		for _, k := range []int{-1, -2, -api.MaxDeg, math.MinInt, math.MinInt + 1, api.MaxDeg + 1, 16, 256, 257, 1 << 16, 1 << 32, 1<<32 + 1, 1 << 62, math.MaxInt - 1, math.MaxInt} {
			e := make([]int, n)
			e[i] = k
			l[fmt.Sprintf("%d at %d", k, i)] = e
			for j := range n {
				if j == i {
					continue
				}
				// The sum is in range, if it may wrap round.
				other := slices.Clone(e)
				other[j] = -k
				l[fmt.Sprintf("%d at %d, its negative at %d", k, i, j)] = other
				other = slices.Clone(e)
				other[j] = 1 - k
				l[fmt.Sprintf("%d at %d, 1 less its negative at %d", k, i, j)] = other
			}
		}
		for k := 1; k <= api.MaxDeg; k++ {
			e := make([]int, n)
			e[i] = k
			if n > 1 {
				e[(i+1)%n] = api.MaxDeg + 1 - k
				l[fmt.Sprintf("sum MaxDeg + 1, %d at %d", k, i)] = e
			}
		}
	}
	return l
}

// noMonos are what no monomials of n variables are, by the reason.
func noMonos(n int) map[string]api.Mono {
	l := map[string]api.Mono{}
	for rule, e := range noExps(n) {
		l["exponents: "+rule] = mono(3, e...)
		l["C 0, exponents: "+rule] = mono(0, e...)
	}
	for rule, x := range invalid() {
		l["C: "+rule] = term(x, make([]int, n)...)
		l["C: "+rule+", beside exponents"] = term(x, slices.Repeat([]int{2}, n)...)
	}
	return l
}

// noPolys are lists that are no polynomials of n variables, by the reason.
// Make accepts those whose reason begins with "list".
func noPolys(n int) map[string][]api.Mono {
	l := map[string][]api.Mono{}
	p := some(n, 5)
	for rule, m := range noMonos(n) {
		l["alone: "+rule] = list(m)
		l["in order: "+rule] = sorted(with(p, 0, m))
		l["first: "+rule] = with(p, 0, m)
		l["last: "+rule] = with(p, len(p), m)
	}
	l["list: reversed"] = reversed(p)
	l["list: C 0 alone"] = list(mono(0, make([]int, n)...))
	for i := range p {
		for rule, x := range invalid() {
			l[fmt.Sprintf("C %d: %s", i, rule)] = but(p, i, term(x, p[i].E...))
		}
		l[fmt.Sprintf("list: C %d is 0", i)] = but(p, i, mono(0, p[i].E...))
		l[fmt.Sprintf("list: %d twice", i)] = with(p, i, p[i])
		l[fmt.Sprintf("list: %d and its negative", i)] = with(p, i, term(minus(p[i].C), p[i].E...))
		for j := range i {
			l[fmt.Sprintf("list: %d and %d swapped", i, j)] = but(but(p, i, p[j]), j, p[i])
		}
	}
	return l
}

// tooLong are lists of more than MaxTerms monomials of n variables with
// different exponents, in order.
func tooLong(n int) [][]api.Mono {
	var l [][]api.Mono
	for _, terms := range []int{api.MaxTerms + 1, api.MaxTerms + 2, 2 * api.MaxTerms, len(exps(n, api.MaxDeg))} {
		if terms > api.MaxTerms && terms <= len(exps(n, api.MaxDeg)) {
			l = append(l, some(n, terms))
		}
	}
	return l
}

// P10.1: Right

func TestDims(t *testing.T) {
	for _, n := range noDims() {
		for i, p := range [][]api.Mono{nil, {}, list(mono(1)), list(mono(1, 1)), list(mono(1, 0, 0, 0, 0)), list(mono(1, make([]int, min(max(n, 0), 9))...))} {
			if Right(p, n) {
				t.Errorf("%d: right of %d variables", i, n)
			}
		}
	}
	for n := 1; n <= api.MaxDim; n++ {
		if !Right(nil, n) || !Right([]api.Mono{}, n) {
			t.Errorf("the empty polynomial is none of %d variables", n)
		}
		constant := list(mono(3, make([]int, n)...))
		for k := -1; k <= api.MaxDim+1; k++ {
			if Right(constant, k) != (k == n) {
				t.Errorf("a constant of %d variables is right of %d: %t", n, k, k != n)
			}
		}
	}
}

func TestRight(t *testing.T) {
	for n := 1; n <= api.MaxDim; n++ {
		for terms := range most(n) + 1 {
			if !Right(some(n, terms), n) {
				t.Errorf("%s of %d variables is not right", text(some(n, terms)), n)
			}
		}
		for _, c := range []api.Num{of(-1, 0), of(1, maxExp), of(-3, -maxExp), full(maxBits, maxExp), minus(wide(maxBits, -maxExp))} {
			p := some(n, most(n))
			for i := range p {
				if !Right(but(p, i, term(c, p[i].E...)), n) {
					t.Errorf("%s at %d is not right", numText(c), i)
				}
			}
		}
	}
}

func TestNotRight(t *testing.T) {
	for n := 1; n <= api.MaxDim; n++ {
		for rule, p := range noPolys(n) {
			if Right(p, n) {
				t.Errorf("%s: %s of %d variables is right", rule, text(p), n)
			}
		}
		for _, p := range tooLong(n) {
			if Right(p, n) {
				t.Errorf("%d monomials of %d variables are right", len(p), n)
			}
		}
	}
}

// TestDegrees has each monomial of a degree up to MaxDeg and one above.
func TestDegrees(t *testing.T) {
	for n := 1; n <= api.MaxDim; n++ {
		for _, e := range exps(n, api.MaxDeg+1) {
			sum := 0
			for _, k := range e {
				sum += k
			}
			p := list(mono(-7, e...))
			if Right(p, n) != (sum <= api.MaxDeg) {
				t.Errorf("%s: %t", text(p), Right(p, n))
			}
			if want := sum % (api.MaxDeg + 1); Degree(p) != want {
				t.Errorf("Degree(%s) = %d", text(p), Degree(p))
			}
		}
	}
}

// TestPairs has each two monomials: only one order is right, and none if their
// exponents are equal. What comes first is decided by the first exponent that
// differs, whatever the degrees are.
func TestPairs(t *testing.T) {
	for n, most := range []int{0, 8, 8, 4, 3} {
		if n == 0 {
			continue
		}
		l := exps(n, most)
		for i, a := range l {
			for j, b := range l {
				if p := list(mono(1, a...), mono(1, b...)); Right(p, n) != (i < j) {
					t.Errorf("%s: %t", text(p), i >= j)
				}
			}
		}
	}
	for _, p := range [][]api.Mono{
		list(mono(1, 1, 0), mono(1, 0, 8)), list(mono(1, 1, 0, 0, 0), mono(1, 0, 8, 0, 0), mono(1, 0, 0, 8, 0), mono(1, 0, 0, 0, 8)),
		list(mono(1, 8, 0), mono(1, 1, 7), mono(1, 1, 0), mono(1, 0, 0)),
	} {
		if !Right(p, len(p[0].E)) || Right(reversed(p), len(p[0].E)) {
			t.Errorf("%s", text(p))
		}
	}
}

// P10.1: Same

// sames are lists of which no two are the same, whether they are polynomials or not.
func sames() [][]api.Mono {
	p := list(mono(1, 2, 1), mono(1, 1, 0), mono(-3, 0, 0))
	l := [][]api.Mono{nil, p, p[:2], p[1:], with(p, 3, mono(0)), reversed(p), some(2, 24), some(2, 25), but(some(2, 25), 24, mono(7, 0, 0))}
	l = append(l, list(mono(0, 0)), list(mono(1)), list(mono(1, 0)), list(mono(1, 0, 0)), list(mono(1, -1)), list(mono(1, math.MaxInt)), list(mono(1, math.MinInt)))
	for _, c := range []api.Num{of(2, 0), of(1, 1), {W: []uint64{1, 0}}, {W: []uint64{0, 1}}, {W: []uint64{0}}, {Neg: true}, {Exp: 1}, of(1, math.MinInt64), of(1, math.MaxInt64), wide(maxBits+64, 0), wide(maxBits, 0)} {
		l = append(l, list(term(c, 1)))
	}
	for i := range p {
		for _, c := range []api.Num{of(5, 0), of(-1, 0), of(3, 0), of(1, 1), of(-3, 1), wide(128, 0)} {
			l = append(l, but(p, i, term(c, p[i].E...)))
		}
		for j := range p[i].E {
			e := slices.Clone(p[i].E)
			e[j] += 3
			l = append(l, but(p, i, term(p[i].C, e...)))
		}
		l = append(l, but(p, i, term(p[i].C, p[i].E[:1]...)), but(p, i, term(p[i].C, append(slices.Clone(p[i].E), 0)...)), but(p, i, term(p[i].C)))
	}
	return l
}

// copied is l in memory of its own.
func copied(l []api.Mono) []api.Mono {
	l = slices.Clone(l)
	for i, m := range l {
		m.C.W = slices.Clone(m.C.W)
		l[i] = term(m.C, slices.Clone(m.E)...)
	}
	return l
}

func TestSame(t *testing.T) {
	l := sames()
	for i, a := range l {
		for j, b := range l {
			if Same(a, copied(b)) != (i == j) {
				t.Errorf("Same(%s, %s) = %t", text(a), text(b), i != j)
			}
		}
	}
	if !Same(nil, []api.Mono{}) || !Same([]api.Mono{}, nil) {
		t.Error("nil and an empty list are not the same")
	}
	nils, empties := list(api.Mono{}), list(api.Mono{C: api.Num{W: []uint64{}}, E: []int{}})
	if !Same(nils, empties) || !Same(empties, nils) {
		t.Error("nil and empty words or exponents are not the same")
	}
}

// P10.1: Degree

func TestDegree(t *testing.T) {
	for _, x := range []struct {
		p    []api.Mono
		want int
	}{
		{nil, 0}, {[]api.Mono{}, 0}, {list(mono(5, 0)), 0}, {list(mono(5, 0, 0, 0, 0)), 0}, {list(mono(1, 8)), 8}, {list(mono(1, 1), mono(1, 0)), 1},
		{list(mono(1, 0, 8)), 8}, {list(mono(1, 2, 2, 2, 2)), 8}, {list(mono(1, 3, 1), mono(1, 0, 2)), 4},
		{list(mono(1, 3, 1), mono(1, 2, 4), mono(1, 0, 5)), 6}, {list(mono(1, 1, 0, 0), mono(1, 0, 2, 0), mono(1, 0, 0, 3)), 3},
		{some(4, 24), 8}, {some(1, 9), 8}, {list(mono(-1, 0, 7), mono(1, 0, 0)), 7},
		// No polynomials of as many variables as the first monomial has exponents.
		{list(mono(1)), 0}, {list(mono(1, 1, 1, 1, 1, 1)), 0}, {list(mono(1, 1, 1), mono(1, 0)), 0}, {list(mono(1, 1), mono(1, 0, 1)), 0},
		{list(mono(1, 1), mono(1, 2)), 0}, {list(mono(1, 2), mono(0, 1)), 0}, {some(2, 25), 0}, {list(mono(1, 9)), 0},
	} {
		if got := Degree(x.p); got != x.want {
			t.Errorf("Degree(%s) = %d, not %d", text(x.p), got, x.want)
		}
	}
	for n := 1; n <= api.MaxDim; n++ {
		for rule, p := range noPolys(n) {
			if len(p) > 0 && Right(p, len(p[0].E)) {
				continue // of another number of variables
			}
			if got := Degree(p); got != 0 {
				t.Errorf("%s: Degree(%s) = %d", rule, text(p), got)
			}
		}
		for _, p := range tooLong(n) {
			if got := Degree(p); got != 0 {
				t.Errorf("Degree of %d monomials: %d", len(p), got)
			}
		}
	}
}
