package series

import (
	"fmt"
	"math"
	"slices"
	"strings"
	"testing"

	"fathomline/api"
	"fathomline/iv"
)

const (
	all     = math.MaxUint64
	maxBits = 64 * api.MaxWords
	maxExp  = api.MaxExp
)

// of is m times 2^exp, as it is written: valid if m is odd.
func of(m, exp int64) api.Num {
	if m < 0 {
		return api.Num{Neg: true, Exp: exp, W: []uint64{-uint64(m)}}
	}
	return api.Num{Exp: exp, W: []uint64{uint64(m)}}
}

// odd is the valid number m times 2^exp.
func odd(m, exp int64) api.Num {
	if m == 0 {
		return api.Num{}
	}
	for m%2 == 0 {
		m, exp = m/2, exp+1
	}
	return of(m, exp)
}

// minus is -x; a 0 stays as it is.
func minus(x api.Num) api.Num {
	x.Neg = !x.Neg && len(x.W) > 0
	return x
}

// wide is 2^(bits-1) + 1 times 2^exp: that many bits, the outer ones 1.
func wide(bits int, exp int64) api.Num {
	w := make([]uint64, (bits+63)/64)
	w[(bits-1)/64] = 1 << ((bits - 1) % 64)
	w[0] |= 1
	return api.Num{Exp: exp, W: w}
}

// full is 2^bits - 1 times 2^exp.
func full(bits int, exp int64) api.Num {
	w := slices.Repeat([]uint64{all}, (bits+63)/64)
	w[len(w)-1] >>= uint(64*len(w) - bits)
	return api.Num{Exp: exp, W: w}
}

func from(lo, hi api.Num) api.Iv { return api.Iv{Lo: lo, Hi: hi} }

func point(x api.Num) api.Iv { return from(x, x) }

// spanOf is the interval from lo to hi.
func spanOf(lo, hi int64) api.Iv { return from(odd(lo, 0), odd(hi, 0)) }

func intervals(a ...api.Iv) []api.Iv { return a }

// ints is the series whose coefficients are these points.
func ints(values ...int64) []api.Iv {
	var a []api.Iv
	for _, v := range values {
		a = append(a, spanOf(v, v))
	}
	return a
}

// only is the series of that many coefficients that has c for i and 0 for all
// others.
func only(length, i int, c api.Iv) []api.Iv {
	a := make([]api.Iv, length)
	a[i] = c
	return a
}

// primes are as many as a series can have coefficients, and some more.
func primes() []api.Iv { return ints(2, 3, 5, 7, 11, 13, 17, 19, 23, 29, 31, 37, 41) }

func seriesOf(xs ...[]api.Iv) [][]api.Iv { return xs }

func term(c api.Num, e ...int) api.Mono { return api.Mono{C: c, E: e} }

// mono has the coefficient c.
func mono(c int64, e ...int) api.Mono { return term(odd(c, 0), e...) }

func list(l ...api.Mono) []api.Mono { return l }

// exps are all exponents of n variables whose sum is at most most, in
// descending order.
func exps(n, most int) [][]int {
	if n == 0 {
		return [][]int{nil}
	}
	var l [][]int
	for k := most; k >= 0; k-- {
		for _, e := range exps(n-1, most-k) {
			l = append(l, append([]int{k}, e...))
		}
	}
	return l
}

// some is the polynomial of the given number of monomials of n variables, with
// the coefficients 1, 2, 3, and so on.
func some(n, terms int) []api.Mono {
	var p []api.Mono
	for i, e := range exps(n, api.MaxDeg)[:terms] {
		p = append(p, mono(int64(i+1), e...))
	}
	return p
}

// single is k for variable i of n, and 0 for the others.
func single(n, i, k int) []int {
	e := make([]int, n)
	e[i] = k
	return e
}

// with is l with one element replaced.
func with[T any](l []T, i int, x T) []T {
	l = slices.Clone(l)
	l[i] = x
	return l
}

// reversed is l from its end.
func reversed[T any](l []T) []T {
	l = slices.Clone(l)
	slices.Reverse(l)
	return l
}

func equal(a, b api.Num) bool {
	return a.Neg == b.Neg && a.Exp == b.Exp && slices.Equal(a.W, b.W)
}

func equalIv(a, b api.Iv) bool { return equal(a.Lo, b.Lo) && equal(a.Hi, b.Hi) }

// Texts are for messages.

func numText(x api.Num) string {
	sign := ""
	if x.Neg {
		sign = "-"
	}
	if len(x.W) > 2 {
		return fmt.Sprintf("%s(%d words)p%d", sign, len(x.W), x.Exp)
	}
	return fmt.Sprintf("%s%dp%d", sign, x.W, x.Exp)
}

func textsOf[T any](l []T, text func(x T) string) string {
	var texts []string
	for i, x := range l {
		if i == 30 {
			texts = append(texts, fmt.Sprintf("and %d more", len(l)-i))
			break
		}
		texts = append(texts, text(x))
	}
	return "{" + strings.Join(texts, ", ") + "}"
}

func ivText(a api.Iv) string { return "[" + numText(a.Lo) + ", " + numText(a.Hi) + "]" }

func text(a []api.Iv) string { return textsOf(a, ivText) }

func texts(xs [][]api.Iv) string { return textsOf(xs, text) }

func polyText(p []api.Mono) string {
	return textsOf(p, func(m api.Mono) string { return numText(m.C) + fmt.Sprint(m.E) })
}

// invalid are numbers that are not valid (P2.1), by the reason.
func invalid() map[string]api.Num {
	return map[string]api.Num{
		"0 that is negated":      {Neg: true},
		"0 with an exponent":     {Exp: 1},
		"0 of one word":          {W: []uint64{0}},
		"highest word 0":         {W: []uint64{1, 0}},
		"lowest bit 0":           of(2, 0),
		"one word too many":      wide(maxBits+1, 0),
		"exponent above MaxExp":  of(1, maxExp+1),
		"exponent below -MaxExp": of(-1, -maxExp-1),
		"greatest exponent":      of(1, math.MaxInt64),
		"least exponent":         of(-1, math.MinInt64),
	}
}

// noIvs are intervals that are not valid, by the reason.
func noIvs() map[string]api.Iv {
	l := map[string]api.Iv{"Lo greater than Hi": spanOf(2, 1), "Lo greater than Hi, below 0": spanOf(-1, -2), "Lo greater, 0": spanOf(0, -1), "Lo far greater": from(of(1, maxExp), of(1, -maxExp))}
	for rule, x := range invalid() {
		l["Lo: "+rule] = from(x, of(1, maxExp))
		l["Hi: "+rule] = from(of(-1, maxExp), x)
		l["both: "+rule] = point(x)
	}
	return l
}

// noOrders are values of k that are out of range.
func noOrders() []int {
	return []int{-1, -2, -api.MaxOrder, api.MaxOrder + 1, api.MaxOrder + 2, 2 * api.MaxOrder, 1<<32 + 1, -1 << 32, math.MaxInt32, math.MaxInt - 1, math.MaxInt, math.MinInt, math.MinInt + 1}
}

// noPrecs are values of prec that are out of range.
func noPrecs() []int {
	return []int{api.MinPrec - 1, api.MaxPrec + 1, 0, 1, -1, -api.MinPrec, -api.MaxPrec, 1<<32 + api.MinPrec, math.MaxInt32, math.MaxInt, math.MinInt}
}

// precs are values in range, both limits among them.
func precs() []int {
	return []int{api.MinPrec, api.MinPrec + 1, 24, 64, 65, api.MaxPrec - 1, api.MaxPrec}
}

// way is how a result is computed: the zero value is that of the chapter, and
// each field is one thing done otherwise.
type way struct {
	descending, once, halves                                 bool // Coef
	swapped, turned, cLast, pointC, apart, squares, lastOnly bool // monomials
	backwards, unstarted                                     bool // polynomials
	rounded, powers, reversed                                bool // Sum
}

// calc performs operations until one of them fails.
type calc struct {
	prec int
	err  api.Errno
}

func (c *calc) do(call func() (api.Iv, api.Errno)) api.Iv {
	if c.err != api.OK {
		return api.Iv{}
	}
	var a api.Iv
	a, c.err = call()
	return a
}

func (c *calc) add(a, b api.Iv) api.Iv {
	return c.do(func() (api.Iv, api.Errno) { return iv.Add(a, b, c.prec) })
}

func (c *calc) mul(a, b api.Iv) api.Iv {
	return c.do(func() (api.Iv, api.Errno) { return iv.Mul(a, b, c.prec) })
}

func (c *calc) pow(a api.Iv, k int) api.Iv {
	return c.do(func() (api.Iv, api.Errno) { return iv.Pow(a, k, c.prec) })
}

// round is what the call computes to as many bits as there can be, rounded.
func (c *calc) round(call func(c *calc) api.Iv) api.Iv {
	long := &calc{prec: api.MaxPrec}
	return c.add(c.do(func() (api.Iv, api.Errno) { return long.result(call(long)) }), api.Iv{})
}

// result is a, if nothing failed.
func (c *calc) result(a api.Iv) (api.Iv, api.Errno) {
	if c.err != api.OK {
		return api.Iv{}, c.err
	}
	return a, api.OK
}

// total adds the intervals, of which there is at least one.
func (c *calc) total(l []api.Iv, w way) api.Iv {
	if w.descending {
		l = reversed(l)
	}
	if w.halves && len(l) > 2 {
		half := len(l) / 2
		return c.add(c.total(l[:half], w), c.total(l[half:], w))
	}
	sum := l[0]
	for _, x := range l[1:] {
		sum = c.add(sum, x)
	}
	return sum
}

// coef is coefficient k of the product of a and b.
func (c *calc) coef(a, b []api.Iv, k int, w way) api.Iv {
	if w.once {
		return c.round(func(long *calc) api.Iv { return long.coef(a, b, k, way{}) })
	}
	var products []api.Iv
	for i := range k + 1 {
		products = append(products, c.mul(a[i], b[k-i]))
	}
	return c.total(products, w)
}

// times are the coefficients from 0 to k of the product of a and b.
func (c *calc) times(a, b []api.Iv, k int, w way) []api.Iv {
	l := make([]api.Iv, k+1)
	for i := range l {
		l[i] = c.coef(a, b, i, w)
	}
	return l
}

// factors are the series that C is multiplied by for m.
func (c *calc) factors(m api.Mono, xs [][]api.Iv, k int, w way) [][]api.Iv {
	var l [][]api.Iv
	for i, e := range m.E {
		if e < 2 || !w.apart && !w.squares {
			l = append(l, slices.Repeat(seriesOf(xs[i]), e)...)
			continue
		}
		power := xs[i]
		for range e - 1 {
			power = c.times(power, xs[i], k, w)
		}
		if w.squares {
			power[0] = c.pow(xs[i][0], e)
		}
		l = append(l, power)
	}
	return l
}

// along are the coefficients from 0 to k of m applied to xs.
func (c *calc) along(m api.Mono, xs [][]api.Iv, k int, w way) []api.Iv {
	s := only(k+1, 0, iv.Of(m.C))
	if w.pointC {
		s[0] = c.add(s[0], api.Iv{})
	}
	l := c.factors(m, xs, k, w)
	if w.turned {
		slices.Reverse(l)
	}
	if w.cLast && len(l) > 0 {
		s, l = l[0], append(l[1:], s)
	}
	for i, x := range l {
		switch {
		case w.lastOnly && i == len(l)-1:
			s = only(k+1, k, c.coef(s, x, k, w))
		case w.swapped:
			s = c.times(x, s, k, w)
		default:
			s = c.times(s, x, k, w)
		}
	}
	return s
}

// coefBy is coefficient k of the product of a and b, computed in one of the ways.
func coefBy(w way, a, b []api.Iv, k, prec int) (api.Iv, api.Errno) {
	c := &calc{prec: prec}
	return c.result(c.coef(a, b, k, w))
}

// ofBy is coefficient k of p applied to xs, computed in one of the ways.
func ofBy(w way, p []api.Mono, xs [][]api.Iv, k, prec int) (api.Iv, api.Errno) {
	c := &calc{prec: prec}
	if w.backwards {
		p = reversed(p)
	}
	var sum api.Iv
	for i, m := range p {
		v := c.along(m, xs, k, w)[k]
		if i == 0 && w.unstarted {
			sum = v
		} else {
			sum = c.add(sum, v)
		}
	}
	return c.result(sum)
}

// sumBy is the value of a at h, computed in one of the ways.
func sumBy(w way, a []api.Iv, h api.Iv, prec int) (api.Iv, api.Errno) {
	c := &calc{prec: prec}
	if w.reversed {
		a = reversed(a)
	}
	if w.powers {
		v := a[0]
		for i, x := range a[1:] {
			v = c.add(v, c.mul(x, c.pow(h, i+1)))
		}
		return c.result(v)
	}
	rest := reversed(a)
	v := rest[0]
	if w.rounded {
		v = c.add(v, api.Iv{})
	}
	for _, x := range rest[1:] {
		if w.once {
			v = c.round(func(long *calc) api.Iv { return long.add(long.mul(v, h), x) })
		} else {
			v = c.add(c.mul(v, h), x)
		}
	}
	return c.result(v)
}

// told expects of each way at least one case that has another result.
type told map[string]bool

func (l told) tell(name string, got api.Iv, err api.Errno, want api.Iv, wantErr api.Errno) {
	l[name] = l[name] || err != wantErr || !equalIv(got, want)
}

func (l told) expect(t *testing.T, ways map[string]way) {
	t.Helper()
	for name := range ways {
		if !l[name] {
			t.Errorf("no case tells: %s", name)
		}
	}
}

// checkCoef expects the result, or an error and nothing beside it.
func checkCoef(t *testing.T, a, b []api.Iv, k, prec int, want api.Iv, wantErr api.Errno) {
	t.Helper()
	if got, err := Coef(a, b, k, prec); err != wantErr || !equalIv(got, want) {
		t.Errorf("Coef(%s, %s, %d, %d) = %s, %d, not %s, %d", text(a), text(b), k, prec, ivText(got), err, ivText(want), wantErr)
	}
}

func checkOf(t *testing.T, p []api.Mono, xs [][]api.Iv, k, prec int, want api.Iv, wantErr api.Errno) {
	t.Helper()
	if got, err := Of(p, xs, k, prec); err != wantErr || !equalIv(got, want) {
		t.Errorf("Of(%s, %s, %d, %d) = %s, %d, not %s, %d", polyText(p), texts(xs), k, prec, ivText(got), err, ivText(want), wantErr)
	}
}

func checkSum(t *testing.T, a []api.Iv, h api.Iv, prec int, want api.Iv, wantErr api.Errno) {
	t.Helper()
	if got, err := Sum(a, h, prec); err != wantErr || !equalIv(got, want) {
		t.Errorf("Sum(%s, %s, %d) = %s, %d, not %s, %d", text(a), ivText(h), prec, ivText(got), err, ivText(want), wantErr)
	}
}
