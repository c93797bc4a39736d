package poly

import (
	"fmt"
	"math"
	"slices"
	"testing"

	"fathomline/api"
	"fathomline/iv"
)

// P10.3: Range

func from(lo, hi api.Num) api.Iv { return api.Iv{Lo: lo, Hi: hi} }

func point(x api.Num) api.Iv { return from(x, x) }

// spanOf is the interval from lo to hi.
func spanOf(lo, hi int64) api.Iv { return from(odd(lo, 0), odd(hi, 0)) }

func boxOf(b ...api.Iv) []api.Iv { return b }

func equalIv(a, b api.Iv) bool { return equal(a.Lo, b.Lo) && equal(a.Hi, b.Hi) }

func ivText(a api.Iv) string { return "[" + numText(a.Lo) + ", " + numText(a.Hi) + "]" }

func boxText(b []api.Iv) string {
	var texts []string
	for _, a := range b {
		texts = append(texts, ivText(a))
	}
	return fmt.Sprint(texts)
}

// checkRange expects the result, or an error and nothing beside it.
func checkRange(t *testing.T, p []api.Mono, b []api.Iv, prec int, want api.Iv, wantErr api.Errno) {
	t.Helper()
	if got, err := Range(p, b, prec); err != wantErr || !equalIv(got, want) {
		t.Errorf("Range(%s, %s, %d) = %s, %d, not %s, %d", text(p), boxText(b), prec, ivText(got), err, ivText(want), wantErr)
	}
}

// way is how a range is computed: the zero value is that of P10.3, and each
// field is one thing done otherwise.
type way struct {
	cLast, turned, singly, ones, backwards, unstarted, termwise, pointC bool
}

// ways are all that differ in one thing, by its name.
func ways() map[string]way {
	return map[string]way{
		"C is multiplied last":                   {cLast: true},
		"the variables are in descending order":  {turned: true},
		"each power is a product":                {singly: true},
		"powers with the exponent 0 count":       {ones: true},
		"the monomials are in reverse":           {backwards: true},
		"the first monomial is the first sum":    {unstarted: true},
		"the powers have a product of their own": {termwise: true},
		"C is rounded first":                     {pointC: true},
	}
}

// calc performs operations until one of them fails.
type calc struct {
	prec int
	err  api.Errno
}

func (c *calc) do(call func() (api.Iv, api.Errno)) api.Iv {
	if c.err != api.OK {
		return api.Iv{}
	}
	var a api.Iv
	a, c.err = call()
	return a
}

func (c *calc) add(a, b api.Iv) api.Iv {
	return c.do(func() (api.Iv, api.Errno) { return iv.Add(a, b, c.prec) })
}

func (c *calc) mul(a, b api.Iv) api.Iv {
	return c.do(func() (api.Iv, api.Errno) { return iv.Mul(a, b, c.prec) })
}

func (c *calc) pow(a api.Iv, k int) api.Iv {
	return c.do(func() (api.Iv, api.Errno) { return iv.Pow(a, k, c.prec) })
}

// factors are the intervals that are multiplied for m.
func (c *calc) factors(m api.Mono, b []api.Iv, w way) []api.Iv {
	l := boxOf(iv.Of(m.C))
	if w.pointC {
		l[0] = c.add(l[0], api.Iv{})
	}
	for i, k := range m.E {
		switch {
		case w.singly:
			l = append(l, slices.Repeat(boxOf(b[i]), k)...)
		case k > 0 || w.ones:
			l = append(l, c.pow(b[i], k))
		}
	}
	if w.turned {
		slices.Reverse(l[1:])
	}
	if w.cLast {
		l = append(l[1:], l[0])
	}
	if w.termwise && len(l) > 2 {
		rest := l[1]
		for _, x := range l[2:] {
			rest = c.mul(rest, x)
		}
		l = boxOf(l[0], rest)
	}
	return l
}

// rangeBy is the range of p in b, computed in one of the ways.
func rangeBy(w way, p []api.Mono, b []api.Iv, prec int) (api.Iv, api.Errno) {
	c := &calc{prec: prec}
	var sum api.Iv
	if w.backwards {
		p = reversed(p)
	}
	for i, m := range p {
		l := c.factors(m, b, w)
		v := l[0]
		for _, x := range l[1:] {
			v = c.mul(v, x)
		}
		if i == 0 && w.unstarted {
			sum = v
		} else {
			sum = c.add(sum, v)
		}
	}
	if c.err != api.OK {
		return api.Iv{}, c.err
	}
	return sum, api.OK
}

func TestRange(t *testing.T) {
	for _, x := range []struct {
		p    []api.Mono
		b    []api.Iv
		want api.Iv
	}{
		{nil, boxOf(spanOf(1, 2)), api.Iv{}}, {nil, slices.Repeat(boxOf(spanOf(1, 2)), 4), api.Iv{}}, {list(mono(5, 0)), boxOf(spanOf(1, 2)), spanOf(5, 5)}, {list(mono(-5, 0, 0, 0, 0)), slices.Repeat(boxOf(spanOf(0, 2)), 4), spanOf(-5, -5)},
		{list(mono(2, 1), mono(1, 0)), boxOf(spanOf(-1, 3)), spanOf(-1, 7)}, {list(mono(-2, 1), mono(1, 0)), boxOf(spanOf(-1, 3)), spanOf(-5, 3)},
		// Each monomial has a range of its own: x - x^2 is not below -2 here.
		{list(mono(1, 2), mono(-1, 1)), boxOf(spanOf(-1, 2)), spanOf(-2, 5)}, {list(mono(1, 1, 0), mono(-1, 0, 1)), boxOf(spanOf(1, 2), spanOf(1, 2)), spanOf(-1, 1)},
		{list(mono(3, 2, 1), mono(-1, 0, 2)), boxOf(spanOf(-1, 2), spanOf(1, 2)), spanOf(-4, 23)},
		// Intervals that contain 0, end there, or are 0.
		{list(mono(1, 2)), boxOf(spanOf(-3, 2)), spanOf(0, 9)}, {list(mono(1, 3)), boxOf(spanOf(-3, 2)), spanOf(-27, 8)}, {list(mono(-1, 8)), boxOf(spanOf(-1, 2)), from(odd(-256, 0), api.Num{})},
		{list(mono(1, 2, 1)), boxOf(spanOf(-3, 2), spanOf(-1, 1)), spanOf(-9, 9)}, {list(mono(1, 1, 1)), boxOf(spanOf(-1, 2), spanOf(-3, 4)), spanOf(-6, 8)}, {list(mono(1, 2, 2)), boxOf(spanOf(-3, 2), spanOf(-1, 1)), spanOf(0, 9)},
		{list(mono(1, 3)), boxOf(spanOf(0, 2)), spanOf(0, 8)}, {list(mono(1, 3)), boxOf(spanOf(-2, 0)), spanOf(-8, 0)}, {list(mono(-7, 4)), boxOf(spanOf(0, 0)), spanOf(0, 0)}, {list(mono(5, 1, 0), mono(3, 0, 0)), boxOf(spanOf(0, 0), spanOf(-9, 9)), spanOf(3, 3)},
		{list(mono(4, 1, 1)), boxOf(spanOf(0, 0), spanOf(-9, 9)), spanOf(0, 0)},
		// Exponents of 0: the variable is of no matter.
		{list(mono(3, 0, 2)), boxOf(spanOf(-100, 100), spanOf(1, 2)), spanOf(3, 12)}, {list(mono(3, 2, 0, 0)), boxOf(spanOf(1, 2), spanOf(-1000, 2000), point(full(maxBits, maxExp))), spanOf(3, 12)},
		{list(mono(1, 0, 0, 1, 0)), boxOf(point(of(1, maxExp)), spanOf(5, 6), spanOf(7, 8), point(of(-1, -maxExp))), spanOf(7, 8)},
		// Each exponent has its variable.
		{list(mono(1, 1, 2, 3, 2)), boxOf(spanOf(1, 1), spanOf(2, 2), spanOf(-1, -1), spanOf(4, 4)), spanOf(-64, -64)}, {list(mono(1, 4, 0, 1, 0), mono(1, 0, 1, 0, 0)), boxOf(spanOf(1, 2), spanOf(3, 4), spanOf(5, 6), spanOf(7, 8)), spanOf(8, 100)},
		// What is rounded to 8 bits: the constant itself, products and sums.
		{list(mono(257, 0)), boxOf(spanOf(0, 0)), from(odd(256, 0), odd(258, 0))}, {list(mono(-257, 0)), boxOf(spanOf(0, 0)), from(odd(-258, 0), odd(-256, 0))}, {list(mono(257, 1)), boxOf(spanOf(1, 1)), from(odd(256, 0), odd(258, 0))},
		{list(mono(1, 1), mono(1, 0)), boxOf(spanOf(256, 256)), from(odd(256, 0), odd(258, 0))}, {list(mono(1, 1), mono(1, 0)), boxOf(spanOf(-256, 512)), from(odd(-255, 0), odd(516, 0))}, {list(mono(1, 2)), boxOf(spanOf(17, 17)), from(odd(288, 0), odd(290, 0))},
		{list(mono(1, 1), mono(1, 0)), boxOf(point(of(1, maxExp))), from(of(1, maxExp), of(129, maxExp-7))}, {list(term(full(maxBits, 0), 1)), boxOf(spanOf(-1, 1)), from(of(-1, maxBits), of(1, maxBits))},
	} {
		checkRange(t, x.p, x.b, 8, x.want, api.OK)
	}
}

// TestRangeOrder: in each of the other ways at least one result is another one.
func TestRangeOrder(t *testing.T) {
	cases := []struct {
		p    []api.Mono
		b    []api.Iv
		want api.Iv
	}{
		{list(mono(307, 2, 1)), boxOf(spanOf(11, 17), spanOf(23, 37)), from(of(13, 16), of(101, 15))},
		{list(mono(84, 2, 0, 1)), boxOf(spanOf(17, 20), spanOf(18, 46), spanOf(25, 44)), from(of(147, 12), of(91, 14))},
		{list(mono(39, 2)), boxOf(spanOf(18, 20)), from(of(197, 6), of(61, 8))},
		{list(mono(293, 0, 2), mono(248, 0, 1)), boxOf(spanOf(18, 40), spanOf(13, 22)), from(of(205, 8), of(145, 10))},
		{list(mono(261, 1)), boxOf(spanOf(25, 34)), from(of(203, 5), of(139, 6))},
		{list(mono(285, 0)), boxOf(spanOf(28, 40)), from(of(71, 2), of(143, 1))},
		{list(mono(269, 4), mono(270, 2), mono(287, 1)), boxOf(spanOf(20, 48)), from(of(163, 18), of(173, 23))},
	}
	told := map[string]bool{}
	for _, x := range cases {
		checkRange(t, x.p, x.b, 8, x.want, api.OK)
		for name, w := range ways() {
			if got, err := rangeBy(w, x.p, x.b, 8); err != api.OK || !equalIv(got, x.want) {
				told[name] = true
			}
		}
	}
	for name := range ways() {
		if !told[name] {
			t.Errorf("no case tells that %s", name)
		}
	}
}

// outside are values of prec that are out of range.
func outside() []int {
	return []int{api.MinPrec - 1, api.MaxPrec + 1, 0, 1, -1, -api.MinPrec, -api.MaxPrec, 1<<32 + api.MinPrec, math.MaxInt32, math.MaxInt, math.MinInt}
}

func TestRangePrec(t *testing.T) {
	for n := 1; n <= api.MaxDim; n++ {
		b := slices.Repeat(boxOf(spanOf(-1, 3)), n)
		over := slices.Repeat(boxOf(point(of(1, maxExp))), n)
		for _, p := range [][]api.Mono{nil, list(mono(3, make([]int, n)...)), list(mono(1, slices.Repeat([]int{2}, n)...)), some(n, most(n))} {
			for _, prec := range outside() {
				checkRange(t, p, b, prec, api.Iv{}, api.ErrForm)
				checkRange(t, p, over, prec, api.Iv{}, api.ErrForm)
			}
			for _, prec := range []int{api.MinPrec, api.MinPrec + 1, 64, api.MaxPrec - 1, api.MaxPrec} {
				want, wantErr := rangeBy(way{}, p, b, prec)
				checkRange(t, p, b, prec, want, wantErr)
			}
		}
	}
	// The result has exactly so many bits.
	third := list(term(full(300, -300), 1))
	for prec := api.MinPrec; prec <= api.MaxPrec; prec++ {
		checkRange(t, third, boxOf(spanOf(1, 1)), prec, from(full(prec, -int64(prec)), odd(1, 0)), api.OK)
		checkRange(t, list(term(full(300, -300), 0)), boxOf(spanOf(1, 1)), prec, from(full(prec, -int64(prec)), odd(1, 0)), api.OK)
	}
}

// noIvs are intervals that are not valid, by the reason.
func noIvs() map[string]api.Iv {
	l := map[string]api.Iv{"Lo greater than Hi": spanOf(2, 1), "Lo greater than Hi, below 0": spanOf(-1, -2), "Lo greater, 0": spanOf(0, -1), "Lo far greater": from(of(1, maxExp), of(1, -maxExp))}
	for rule, x := range invalid() {
		l["Lo: "+rule] = from(x, of(1, maxExp))
		l["Hi: "+rule] = from(of(-1, maxExp), x)
		l["both: "+rule] = point(x)
	}
	return l
}

func TestRangeForm(t *testing.T) {
	for n := 1; n <= api.MaxDim; n++ {
		b := slices.Repeat(boxOf(spanOf(1, 2)), n)
		over := slices.Repeat(boxOf(point(of(1, maxExp))), n)
		last := make([]int, n)
		last[n-1] = 2
		polys := [][]api.Mono{nil, list(mono(1, make([]int, n)...)), list(mono(1, last...)), some(n, most(n))}
		for rule, p := range noPolys(n) {
			for _, b := range [][]api.Iv{b, over, make([]api.Iv, n)} {
				if got, err := Range(p, b, 8); err != api.ErrForm || !equalIv(got, api.Iv{}) {
					t.Errorf("%s: Range(%s) = %s, %d", rule, text(p), ivText(got), err)
				}
			}
		}
		for _, p := range tooLong(n) {
			checkRange(t, p, b, 8, api.Iv{}, api.ErrForm)
		}
		for _, p := range polys {
			for i := range n {
				for _, a := range noIvs() {
					for _, others := range [][]api.Iv{b, over, make([]api.Iv, n)} {
						others = slices.Clone(others)
						others[i] = a
						checkRange(t, p, others, 8, api.Iv{}, api.ErrForm)
					}
				}
			}
			for k := range 2 * api.MaxDim {
				if k == n || len(p) == 0 && k > 0 && k <= api.MaxDim {
					continue
				}
				checkRange(t, p, slices.Repeat(boxOf(spanOf(1, 2)), k), 8, api.Iv{}, api.ErrForm)
				checkRange(t, p, slices.Repeat(boxOf(point(of(1, maxExp))), k), 8, api.Iv{}, api.ErrForm)
			}
		}
	}
	for k := api.MaxDim + 1; k < 100; k++ {
		checkRange(t, nil, make([]api.Iv, k), 8, api.Iv{}, api.ErrForm)
		checkRange(t, list(mono(1, make([]int, k)...)), make([]api.Iv, k), 8, api.Iv{}, api.ErrForm)
	}
	checkRange(t, nil, nil, 8, api.Iv{}, api.ErrForm)
	checkRange(t, list(mono(1)), nil, 8, api.Iv{}, api.ErrForm)
}

// TestRangeOver has one operation that fails, wherever it stands, though what
// follows would lead back to numbers.
func TestRangeOver(t *testing.T) {
	top, low := of(1, maxExp), of(1, -maxExp)
	far, near := of(1, 40000), of(1, -40000)
	for _, x := range []struct {
		p  []api.Mono
		b  []api.Iv
		ok bool
	}{
		// A power.
		{list(mono(1, 2)), boxOf(point(far)), false}, {list(mono(1, 2)), boxOf(point(near)), false}, {list(mono(1, 8)), boxOf(point(of(1, maxExp/8))), true}, {list(mono(1, 8)), boxOf(point(of(1, maxExp/8+1))), false},
		{list(mono(1, 2)), boxOf(from(odd(1, 0), far)), false}, {list(mono(1, 2)), boxOf(from(minus(far), odd(1, 0))), false}, {list(mono(1, 2)), boxOf(from(near, odd(1, 0))), false}, {list(mono(1, 2)), boxOf(from(minus(near), odd(1, 0))), true},
		{list(mono(1, 1)), boxOf(point(far)), true}, {list(term(low, 2)), boxOf(point(far)), false}, {list(mono(1, 2, 1)), boxOf(point(far), spanOf(0, 0)), false}, {list(mono(1, 1, 2)), boxOf(spanOf(0, 0), point(far)), false},
		{list(mono(1, 1, 0), mono(1, 0, 0)), boxOf(spanOf(1, 2), point(far)), true}, {list(mono(1, 2, 2)), boxOf(point(far), point(near)), false},
		// A product.
		{list(term(far, 1)), boxOf(point(far)), false}, {list(term(near, 1)), boxOf(point(near)), false}, {list(term(far, 1)), boxOf(from(minus(near), far)), false}, {list(term(top, 1)), boxOf(spanOf(1, 2)), false}, {list(term(top, 1)), boxOf(spanOf(-2, 1)), false}, {list(term(top, 1)), boxOf(spanOf(-1, 1)), true},
		{list(term(far, 1, 1)), boxOf(point(far), point(near)), false}, {list(term(far, 1, 1)), boxOf(point(near), point(far)), true}, {list(term(far, 1, 1)), boxOf(point(far), spanOf(0, 0)), false}, {list(term(far, 1, 1)), boxOf(spanOf(0, 0), point(far)), true},
		{list(mono(1, 1, 1, 1)), boxOf(point(far), point(far), point(near)), false}, {list(mono(1, 1, 1, 1)), boxOf(point(far), point(near), point(far)), true}, {list(mono(1, 1, 1, 1)), boxOf(point(near), point(near), point(far)), false},
		// A sum.
		{list(term(full(8, maxExp), 1), term(full(8, maxExp), 0)), boxOf(spanOf(1, 1)), false}, {list(term(full(8, maxExp), 1), term(full(8, maxExp), 0)), boxOf(spanOf(0, 1)), false}, {list(term(full(8, maxExp), 1), term(full(8, maxExp), 0)), boxOf(spanOf(-1, 0)), true},
		{list(mono(257, 1), mono(1, 0)), boxOf(spanOf(1, 1)), true}, {list(term(top, 1), mono(1, 0)), boxOf(spanOf(1, 1)), true}, {list(term(top, 1), term(low, 0)), boxOf(spanOf(1, 1)), true}, {list(term(top, 1), term(minus(low), 0)), boxOf(spanOf(1, 1)), true},
		{list(term(full(8, maxExp), 2), term(full(8, maxExp), 1), term(minus(full(8, maxExp)), 0)), boxOf(spanOf(1, 1)), false}, {list(term(full(8, maxExp), 2), term(minus(full(8, maxExp)), 1), term(full(8, maxExp), 0)), boxOf(spanOf(1, 1)), true},
		// A constant, whose value to 8 bits is none or is one.
		{list(term(of(257, maxExp), 0)), boxOf(spanOf(1, 1)), false}, {list(term(of(255, maxExp), 0)), boxOf(spanOf(1, 1)), true}, {list(term(of(257, -maxExp), 0)), boxOf(spanOf(1, 1)), true}, {list(term(full(maxBits, maxExp-maxBits), 0)), boxOf(spanOf(1, 1)), true}, {list(term(full(maxBits, maxExp-maxBits+1), 0)), boxOf(spanOf(1, 1)), false},
		// At each monomial.
		{list(mono(1, 2, 0), mono(1, 0, 1), mono(1, 0, 0)), boxOf(point(far), spanOf(1, 2)), false}, {list(mono(1, 1, 0), mono(1, 0, 2), mono(1, 0, 0)), boxOf(spanOf(1, 2), point(far)), false}, {list(mono(1, 1, 0), mono(1, 0, 1), term(of(-257, maxExp), 0, 0)), boxOf(spanOf(1, 2), spanOf(1, 2)), false},
	} {
		want, wantErr := rangeBy(way{}, x.p, x.b, 8)
		if (wantErr == api.OK) != x.ok || !x.ok && wantErr != api.ErrOver {
			t.Errorf("the operations of %s in %s: %d", text(x.p), boxText(x.b), wantErr)
		}
		checkRange(t, x.p, x.b, 8, want, wantErr)
	}
	// A range of no number, and a value that has one; and the other way round.
	checkAt(t, list(term(low, 2)), []api.Num{far}, of(1, 80000-maxExp), api.OK)
	checkAt(t, list(mono(1, 1), mono(1, 0)), []api.Num{top}, api.Num{}, api.ErrOver)
	checkRange(t, list(mono(1, 1), mono(1, 0)), boxOf(point(top)), 8, from(top, of(129, maxExp-7)), api.OK)
}

// interval is mostly valid; it has numbers of the kind.
func (s *source) interval(kind int) api.Iv {
	x, y := s.number(kind), s.number(kind)
	if kind > 0 && valueOf(x).cmp(valueOf(y)) > 0 {
		x, y = y, x
	}
	switch s.below(8) {
	case 0:
		return point(x)
	case 1:
		if x.Neg {
			return from(x, api.Num{})
		}
	}
	return from(x, y)
}

// box has intervals of ordinary size. One or two may be of any size.
func (s *source) box(n int) []api.Iv {
	var b []api.Iv
	for range n {
		b = append(b, s.interval(2+s.below(16*n)/(16*n-1)))
	}
	return b
}

func (s *source) prec() int {
	if s.below(2) == 0 {
		return api.MinPrec + s.below(4)
	}
	return api.MinPrec + s.below(api.MaxPrec-api.MinPrec+1)
}

func TestRangeAgainstIntervals(t *testing.T) {
	s, seen := source(5), map[api.Errno]int{}
	for range 5000 {
		n, prec := 1+s.below(api.MaxDim), s.prec()
		p, b := s.poly(n, s.below(40)>>s.below(5), 1+s.below(api.MaxDeg), 2+s.below(2)), s.box(n)
		want, wantErr := rangeBy(way{}, p, b, prec)
		if !isPoly(p, n) {
			want, wantErr = api.Iv{}, api.ErrForm
		}
		checkRange(t, p, b, prec, want, wantErr)
		seen[wantErr]++
		if t.Failed() {
			return
		}
	}
	if seen[api.OK] < 2000 || seen[api.ErrOver] < 200 {
		t.Errorf("results: %v", seen)
	}
}

// P10.4

func within(d dyadic, a api.Iv) bool {
	return valueOf(a.Lo).cmp(d) <= 0 && d.cmp(valueOf(a.Hi)) <= 0
}

// between is a number in a: an end, or one that cuts a into parts.
func (s *source) between(a api.Iv) dyadic {
	part := dyadic{whole(int64(s.below(9))).m, -3}
	rest := dyadic{whole(8 - part.m.Int64()).m, -3}
	return valueOf(a.Lo).times(rest).plus(valueOf(a.Hi).times(part))
}

// TestRangeContains has points of the box, its corners among them, and At of
// those that consist of valid numbers.
func TestRangeContains(t *testing.T) {
	s, seen, tight := source(6), 0, 0
	for range 2500 {
		n, prec := 1+s.below(api.MaxDim), s.prec()
		p, b := s.poly(n, s.below(20), 1+s.below(api.MaxDeg), 2+s.below(2)), s.box(n)
		got, err := Range(p, b, prec)
		if err != api.OK {
			continue
		}
		seen++
		for k := range 12 {
			var x []dyadic
			for _, a := range b {
				if k < 6 {
					a = point([]api.Num{a.Lo, a.Hi}[s.below(2)])
				}
				x = append(x, s.between(a))
			}
			v := exactAt(p, x)
			if !within(v, got) {
				t.Fatalf("the range of %s in %s to %d bits has not the value at %v", text(p), boxText(b), prec, x)
			}
			if v.cmp(valueOf(got.Lo)) == 0 || v.cmp(valueOf(got.Hi)) == 0 {
				tight++
			}
		}
	}
	if seen < 1500 || tight < 500 {
		t.Errorf("only %d ranges, and %d values at their ends", seen, tight)
	}
}

// TestRangeOfPoints: the range at a point has the value, and is next to it.
func TestRangeOfPoints(t *testing.T) {
	s := source(7)
	for range 2000 {
		n, prec := 1+s.below(api.MaxDim), s.prec()
		p := s.poly(n, s.below(8), 4, 2)
		var x []api.Num
		var b []api.Iv
		for range n {
			y := s.number(2)
			x, b = append(x, y), append(b, point(y))
		}
		v, err1 := At(p, x)
		a, err2 := Range(p, b, prec)
		if err1 != err2 {
			t.Fatalf("At and Range of %s: %d, %d", text(p), err1, err2)
		}
		if err1 == api.OK && (!within(valueOf(v), a) || prec > 100 && !equalIv(a, point(v))) {
			t.Fatalf("the range of %s at %s is %s, and the value %s", text(p), boxText(b), ivText(a), numText(v))
		}
	}
}

// TestRangeOfParts: a part of the box has a part of the range.
func TestRangeOfParts(t *testing.T) {
	s, seen := source(8), 0
	for range 2000 {
		n, prec := 1+s.below(api.MaxDim), s.prec()
		p, b := s.poly(n, s.below(12), 5, 2), s.box(n)
		part := slices.Clone(b)
		for i, a := range b {
			x, _ := s.between(a).number()
			y, _ := s.between(a).number()
			if valueOf(x).cmp(valueOf(y)) > 0 {
				x, y = y, x
			}
			part[i] = from(x, y)
			if !iv.In(part[i], a) {
				part[i] = a
			}
		}
		all, err1 := Range(p, b, prec)
		some, err2 := Range(p, part, prec)
		if err1 == api.OK && err2 == api.OK {
			seen++
			if !iv.In(some, all) {
				t.Fatalf("the range of %s in %s is not in that in %s", text(p), boxText(part), boxText(b))
			}
		}
	}
	if seen < 1000 {
		t.Errorf("only %d pairs", seen)
	}
}
