package poly

import (
	"fmt"
	"testing"

	"fathomline/api"
)

// P10.2: Mul

func TestMul(t *testing.T) {
	for _, x := range []struct {
		a, b, want []api.Mono
		n          int
	}{
		{list(mono(1, 1)), list(mono(1, 1)), list(mono(1, 2)), 1}, {list(mono(3, 0)), list(mono(-5, 0)), list(mono(-15, 0)), 1},
		{list(mono(1, 1), mono(1, 0)), list(mono(1, 1), mono(-1, 0)), list(mono(1, 2), mono(-1, 0)), 1},
		{list(mono(1, 1), mono(1, 0)), list(mono(1, 1), mono(1, 0)), list(mono(1, 2), mono(2, 1), mono(1, 0)), 1},
		{list(mono(1, 1, 0), mono(2, 0, 1)), list(mono(1, 1, 0), mono(-2, 0, 1)), list(mono(1, 2, 0), mono(-4, 0, 2)), 2},
		{list(mono(1, 1, 0), mono(1, 0, 1)), list(mono(1, 2, 0), mono(-1, 1, 1), mono(1, 0, 2)), list(mono(1, 3, 0), mono(1, 0, 3)), 2},
		{list(mono(1, 0, 3)), list(mono(2, 1, 0), mono(4, 0, 5)), list(mono(2, 1, 3), mono(4, 0, 8)), 2},
		{list(mono(7, 1, 2, 0, 1)), list(mono(3, 0, 1, 3, 0), mono(2, 0, 0, 0, 2)), list(mono(21, 1, 3, 3, 1), mono(14, 1, 2, 0, 3)), 4},
		{list(mono(1, 0, 1, 0), mono(1, 0, 0, 1)), list(mono(1, 1, 0, 0), mono(1, 0, 0, 1)), list(mono(1, 1, 1, 0), mono(1, 1, 0, 1), mono(1, 0, 1, 1), mono(1, 0, 0, 2)), 3},
		{list(term(of(3, -7), 2)), list(term(of(5, 9), 1)), list(term(of(15, 2), 3)), 1},
		{list(term(full(maxBits/2, 0), 4)), list(term(wide(maxBits/2+1, 0), 4)), list(term(full(maxBits, 0), 8)), 1},
		{list(term(of(3, maxExp), 1)), list(term(of(5, -maxExp), 0)), list(mono(15, 1)), 1},
		// Products that cancel.
		{list(mono(1, 2), mono(-1, 1), mono(1, 0)), list(mono(1, 1), mono(1, 0)), list(mono(1, 3), mono(1, 0)), 1},
		{list(mono(1, 7), mono(1, 6), mono(1, 5), mono(1, 4), mono(1, 3), mono(1, 2), mono(1, 1), mono(1, 0)), list(mono(1, 1), mono(-1, 0)), list(mono(1, 8), mono(-1, 0)), 1},
	} {
		for _, swapped := range []bool{false, true} {
			if swapped {
				x.a, x.b = x.b, x.a
			}
			got, err := Mul(x.a, x.b, x.n)
			yields(t, text(x.a)+" times "+text(x.b), got, err, x.want)
		}
	}
}

func TestMulByConstants(t *testing.T) {
	for n := 1; n <= api.MaxDim; n++ {
		p, one := some(n, most(n)), make([]int, n)
		for _, x := range []struct {
			factor, want []api.Mono
		}{
			{nil, nil}, {[]api.Mono{}, nil}, {list(mono(1, one...)), p}, {list(mono(2, one...)), doubled(p)},
		} {
			got, err := Mul(p, x.factor, n)
			yields(t, text(p)+" times "+text(x.factor), got, err, x.want)
			got, err = Mul(x.factor, p, n)
			yields(t, text(x.factor)+" times "+text(p), got, err, x.want)
		}
		got, err := Mul(nil, nil, n)
		yields(t, "nothing times nothing", got, err, nil)
	}
}

// TestMulDegrees has all pairs of degrees: only their sum counts, and only if
// neither polynomial is empty.
func TestMulDegrees(t *testing.T) {
	for n := 1; n <= api.MaxDim; n++ {
		for i := range api.MaxDeg + 1 {
			for j := range api.MaxDeg + 1 {
				e, f, sum := make([]int, n), make([]int, n), make([]int, n)
				e[0], f[n-1] = i, j
				sum[0] += i
				sum[n-1] += j
				a, b := list(mono(3, e...)), list(mono(5, f...))
				got, err := Mul(a, b, n)
				if i+j > api.MaxDeg {
					fails(t, text(a)+" times "+text(b), got, err, api.ErrLong)
				} else {
					yields(t, text(a)+" times "+text(b), got, err, list(mono(15, sum...)))
				}
			}
		}
	}
	// The greatest degree is that of a later monomial.
	for _, x := range []struct {
		a, b []api.Mono
		want api.Errno
	}{
		{list(mono(1, 2, 0), mono(1, 0, 5)), list(mono(1, 1, 0), mono(1, 0, 3)), api.OK}, {list(mono(1, 2, 0), mono(1, 0, 5)), list(mono(1, 1, 0), mono(1, 0, 4)), api.ErrLong},
		{list(mono(1, 2, 0), mono(1, 0, 5)), list(mono(1, 1, 0), mono(1, 0, 4), mono(1, 0, 0)), api.ErrLong}, {list(mono(1, 0, 8)), list(mono(1, 0, 0)), api.OK}, {list(mono(1, 0, 8)), list(mono(1, 1, 0), mono(1, 0, 0)), api.ErrLong},
	} {
		for range 2 {
			if got, err := Mul(x.a, x.b, 2); err != x.want || (err != api.OK && len(got) != 0) {
				t.Errorf("%s times %s: %s, %d, not %d", text(x.a), text(x.b), text(got), err, x.want)
			}
			x.a, x.b = x.b, x.a
		}
	}
}

// TestMulFails: the error that comes first. Each pair is tried in both orders.
func TestMulFails(t *testing.T) {
	top, low := of(1, maxExp), of(1, -maxExp)
	// The products of the ten of degree 3 and less with these three differ.
	var ten []api.Mono
	for _, e := range exps(2, 3) {
		ten = append(ten, mono(1, e...))
	}
	three := list(mono(1, 4, 0), mono(1, 0, 5), mono(1, 0, 0))
	topThree := but(three, 2, term(top, 0, 0))
	for _, x := range []struct {
		a, b []api.Mono
		want api.Errno
	}{
		// A product without a number.
		{list(term(top, 1, 0)), list(mono(2, 1, 0)), api.ErrOver}, {list(term(top, 0, 0)), list(term(top, 0, 0)), api.ErrOver}, {list(term(low, 0, 0)), list(term(of(1, -1), 0, 1)), api.ErrOver},
		{list(term(full(maxBits, 0), 1, 0)), list(mono(3, 0, 1)), api.ErrOver}, {list(mono(1, 1, 0), term(top, 0, 1)), list(mono(1, 1, 0), mono(2, 0, 0)), api.ErrOver},
		{list(mono(2, 1, 0), mono(2, 0, 1), mono(2, 0, 0)), list(mono(1, 1, 0), mono(1, 0, 1), term(top, 0, 0)), api.ErrOver},
		// Another one would cancel it.
		{list(term(top, 1, 0), term(top, 0, 1)), list(mono(2, 1, 0), mono(-2, 0, 1)), api.ErrOver},
		{list(term(low, 1, 0), term(low, 0, 1)), list(term(of(1, -1), 1, 0), term(of(-1, -1), 0, 1)), api.ErrOver},
		{list(mono(3, 1, 0), mono(3, 0, 1)), list(term(full(maxBits, 0), 1, 0), term(minus(full(maxBits, 0)), 0, 1)), api.ErrOver},
		// All products have numbers, and a sum of them none.
		{list(term(top, 1, 0), term(top, 0, 1)), list(mono(1, 1, 0), mono(1, 0, 1)), api.ErrOver}, {list(mono(1, 1, 0), mono(1, 0, 1)), list(term(of(1, maxBits), 1, 0), mono(1, 0, 1)), api.ErrOver},
		// Too great a degree.
		{list(mono(1, 8, 0)), list(mono(1, 1, 0)), api.ErrLong}, {list(mono(1, 8, 0)), list(mono(1, 0, 8)), api.ErrLong},
		// The same, ahead of a product without a number.
		{list(term(top, 5, 0)), list(mono(2, 4, 0)), api.ErrLong}, {list(term(top, 5, 0)), list(mono(2, 0, 4)), api.ErrLong}, {list(mono(1, 5, 0), term(top, 0, 0)), list(mono(1, 4, 0), mono(2, 0, 0)), api.ErrLong},
		{list(mono(1, 0, 5), term(top, 0, 0)), list(mono(1, 1, 0), mono(1, 0, 4), mono(2, 0, 0)), api.ErrLong},
		// Too many monomials.
		{ten, three[1:], api.OK}, {ten, three, api.ErrLong}, {ten, topThree, api.ErrLong}, {some(2, 24), list(mono(1, 0, 0)), api.OK},
		// A product without a number ahead of that, be it the first or the last one.
		{but(ten, 0, mono(2, 3, 0)), but(three, 0, term(top, 4, 0)), api.ErrOver}, {but(ten, 9, mono(2, 0, 0)), topThree, api.ErrOver},
		// Likewise a sum.
		{but(ten, 9, term(top, 0, 0)), list(mono(1, 4, 0), mono(1, 0, 5), mono(1, 0, 1), mono(1, 0, 0)), api.ErrOver},
	} {
		for range 2 {
			got, err := Mul(x.a, x.b, 2)
			if err != x.want || (err != api.OK && len(got) != 0) {
				t.Errorf("%s times %s: %s, %d, not %d", text(x.a), text(x.b), text(got), err, x.want)
			}
			x.a, x.b = x.b, x.a
		}
	}
}

// TestMulProducts: each product must have a number, even where all sums have
// one. Here two products of x1 x2 cancel, and one of x1 ends lower with
// another one.
func TestMulProducts(t *testing.T) {
	a := list(term(of(-1, maxExp-1), 1, 1), term(of(1, maxExp), 1, 0), term(of(1, maxExp-5), 0, 0))
	b := list(mono(1, 1, 0), mono(2, 0, 1), mono(4, 0, 0))
	over := 0
	for _, d := range wantProducts(a, b) {
		if _, ok := d.c.number(); !ok {
			over++
		}
	}
	joined, err := wantJoined(wantProducts(a, b))
	if err != api.OK || over != 3 || !Right(joined, 2) {
		t.Fatalf("the sums are %s, %d, and %d products have no number", text(joined), err, over)
	}
	for range 2 {
		got, err := Mul(a, b, 2)
		fails(t, text(a)+" times "+text(b), got, err, api.ErrOver)
		a, b = b, a
	}
}

// P10.2: Diff

func TestDiff(t *testing.T) {
	p := list(mono(3, 2, 1, 0), mono(5, 1, 0, 0), mono(-1, 0, 4, 1), mono(9, 0, 0, 3), mono(7, 0, 0, 0))
	for _, x := range []struct {
		p    []api.Mono
		i, n int
		want []api.Mono
	}{
		{list(mono(1, 2)), 0, 1, list(mono(2, 1))}, // the chapter's example
		{nil, 0, 1, nil}, {nil, 3, 4, nil}, {list(mono(5, 0)), 0, 1, nil}, {list(mono(5, 1)), 0, 1, list(mono(5, 0))}, {list(mono(-5, 8)), 0, 1, list(mono(-40, 7))},
		{p, 0, 3, list(mono(6, 1, 1, 0), mono(5, 0, 0, 0))}, {p, 1, 3, list(mono(3, 2, 0, 0), mono(-4, 0, 3, 1))}, {p, 2, 3, list(mono(-1, 0, 4, 0), mono(27, 0, 0, 2))},
		{list(mono(1, 1, 0), mono(1, 0, 5)), 0, 2, list(mono(1, 0, 0))}, {list(mono(1, 1, 0), mono(1, 0, 5)), 1, 2, list(mono(5, 0, 4))},
		{some(1, 9), 0, 1, list(mono(8, 7), mono(14, 6), mono(18, 5), mono(20, 4), mono(20, 3), mono(18, 2), mono(14, 1), mono(8, 0))},
	} {
		got, err := Diff(x.p, x.i, x.n)
		yields(t, fmt.Sprintf("Diff(%s, %d)", text(x.p), x.i), got, err, x.want)
	}
	for n := 1; n <= api.MaxDim; n++ {
		for i := range n {
			got, err := Diff(list(mono(5, make([]int, n)...)), i, n)
			yields(t, "Diff of a constant", got, err, nil)
			for _, e := range exps(n, api.MaxDeg) {
				d := append([]int{}, e...)
				d[i] = max(0, d[i]-1)
				want := list(mono(3*int64(e[i]), d...))
				if e[i] == 0 {
					want = nil
				}
				got, err := Diff(list(mono(3, e...)), i, n)
				yields(t, fmt.Sprintf("Diff(3%v, %d)", e, i), got, err, want)
			}
		}
	}
}

// TestDiffOver: only what depends on the variable counts, at each index.
func TestDiffOver(t *testing.T) {
	for k := 1; k <= api.MaxDeg; k++ {
		for _, x := range []struct {
			c  api.Num
			ok bool
		}{
			{of(1, maxExp), k%2 == 1}, {of(-3, maxExp), k%2 == 1}, {of(1, maxExp-1), k%4 != 0}, {of(1, maxExp-2), k != 8}, {of(1, maxExp-3), true}, {of(-1, -maxExp), true},
			{full(maxBits, 0), k&(k-1) == 0}, {minus(full(maxBits-1, 0)), k&(k-1) == 0}, {full(maxBits-3, 0), true}, {wide(maxBits, -maxExp), k&(k-1) == 0}, {full(maxBits, maxExp), k == 1},
		} {
			p := list(mono(1, 8, 0), term(x.c, 0, k), mono(1, 0, 0))
			got, err := Diff(p, 1, 2)
			if x.ok {
				want, _ := valueOf(x.c).times(whole(int64(k))).number()
				yields(t, text(p), got, err, list(term(want, 0, k-1)))
			} else {
				fails(t, text(p), got, err, api.ErrOver)
			}
			got, err = Diff(p, 0, 2)
			yields(t, text(p), got, err, list(mono(8, 7, 0)))
		}
	}
	for n := 1; n <= api.MaxDim; n++ {
		for i := range n {
			p := some(n, most(n))
			for j, m := range p {
				if m.E[i] != 2 {
					continue
				}
				got, err := Diff(but(p, j, term(of(1, maxExp), m.E...)), i, n)
				fails(t, "one coefficient of many", got, err, api.ErrOver)
			}
		}
	}
}

func TestDiffForm(t *testing.T) {
	for n := 1; n <= api.MaxDim; n++ {
		high := make([]int, n)
		high[0] = 2
		over := list(term(of(1, maxExp), high...))
		for _, p := range [][]api.Mono{nil, over, some(n, most(n))} {
			for _, i := range []int{-1, n, -n, n + 1, api.MaxDim + 1, 1 << 32, -1 << 32, 1<<63 - 1, -1 << 63} {
				got, err := Diff(p, i, n)
				fails(t, fmt.Sprintf("Diff with respect to %d of %d", i, n), got, err, api.ErrForm)
			}
			for k := -1; k <= api.MaxDim+1; k++ {
				if k == n || len(p) == 0 && k > 0 && k <= api.MaxDim {
					continue
				}
				got, err := Diff(p, 0, k)
				fails(t, fmt.Sprintf("Diff of %d variables, not %d", n, k), got, err, api.ErrForm)
			}
		}
		for rule, p := range noPolys(n) {
			for i := -1; i <= n; i++ {
				got, err := Diff(p, i, n)
				fails(t, rule, got, err, api.ErrForm)
			}
		}
		for _, p := range tooLong(n) {
			got, err := Diff(p, 0, n)
			fails(t, "too long", got, err, api.ErrForm)
		}
	}
	for _, n := range noDims() {
		got, err := Diff(nil, 0, n)
		fails(t, fmt.Sprintf("Diff of %d variables", n), got, err, api.ErrForm)
	}
}
