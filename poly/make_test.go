package poly

import (
	"slices"
	"testing"

	"fathomline/api"
)

// P10.2: Make

func TestMakeDims(t *testing.T) {
	for _, n := range noDims() {
		for _, l := range [][]api.Mono{nil, {}, list(mono(1)), list(mono(1, 1)), list(mono(0, 0)), list(mono(1, make([]int, min(max(n, 0), 9))...))} {
			got, err := Make(l, n)
			fails(t, text(l), got, err, api.ErrForm)
		}
	}
	for n := 1; n <= api.MaxDim; n++ {
		for _, l := range [][]api.Mono{nil, {}} {
			got, err := Make(l, n)
			yields(t, "Make of nothing", got, err, nil)
		}
		constant := list(mono(3, make([]int, n)...))
		for k := -1; k <= api.MaxDim+1; k++ {
			got, err := Make(constant, k)
			if k == n {
				yields(t, "Make of a constant", got, err, constant)
			} else {
				fails(t, "Make of a constant", got, err, api.ErrForm)
			}
		}
	}
}

// TestMakeForm has one element that is no monomial, at each index of lists that
// would lead to a polynomial, to ErrOver or to ErrLong.
func TestMakeForm(t *testing.T) {
	for n := 1; n <= api.MaxDim; n++ {
		over := term(of(1, maxExp), make([]int, n)...)
		lists := [][]api.Mono{nil, some(n, 1), some(n, 4), list(over, over), append(some(n, 3), over, over)}
		if n > 1 {
			lists = append(lists, some(n, api.MaxTerms+1))
		}
		for rule, m := range noMonos(n) {
			for _, l := range lists {
				for i := range len(l) + 1 {
					got, err := Make(with(l, i, m), n)
					fails(t, rule, got, err, api.ErrForm)
				}
			}
		}
	}
}

// TestMakeLists has lists that Right does not take, with valid monomials.
func TestMakeLists(t *testing.T) {
	for _, x := range []struct {
		l, want []api.Mono
		n       int
	}{
		// The order.
		{list(mono(1, 0), mono(2, 2), mono(3, 1)), list(mono(2, 2), mono(3, 1), mono(1, 0)), 1},
		{list(mono(1, 0, 8), mono(2, 1, 0)), list(mono(2, 1, 0), mono(1, 0, 8)), 2},
		{list(mono(1, 0, 0, 8), mono(2, 0, 1, 0), mono(3, 1, 0, 0)), list(mono(3, 1, 0, 0), mono(2, 0, 1, 0), mono(1, 0, 0, 8)), 3},
		{reversed(some(1, 9)), some(1, 9), 1}, {reversed(some(2, 24)), some(2, 24), 2}, {reversed(some(3, 24)), some(3, 24), 3}, {reversed(some(4, 24)), some(4, 24), 4},
		// Equal exponents.
		{list(mono(1, 1), mono(2, 1)), list(mono(3, 1)), 1}, {list(mono(1, 1), mono(1, 1)), list(mono(2, 1)), 1},
		{list(mono(1, 0, 3), mono(2, 1, 0), mono(4, 0, 3)), list(mono(2, 1, 0), mono(5, 0, 3)), 2},
		{list(mono(7, 0, 0, 0, 1), mono(1, 0, 0, 1, 0), mono(-5, 0, 0, 0, 1), mono(1, 0, 0, 1, 0)), list(mono(2, 0, 0, 1, 0), mono(2, 0, 0, 0, 1)), 4},
		{list(mono(3, 2), mono(3, 2), mono(3, 2), mono(3, 2), mono(3, 2)), list(mono(15, 2)), 1},
		// C 0.
		{list(mono(0, 1)), nil, 1}, {list(mono(0, 8, 0)), nil, 2}, {list(mono(0, 1), mono(5, 0)), list(mono(5, 0)), 1},
		{list(mono(5, 1), mono(0, 1), mono(0, 0)), list(mono(5, 1)), 1}, {list(mono(0, 1), mono(0, 1), mono(0, 1)), nil, 1},
		{list(term(api.Num{W: []uint64{}}, 1), mono(1, 0)), list(mono(1, 0)), 1},
		// Sums that cancel to 0.
		{list(mono(1, 1), mono(-1, 1)), nil, 1}, {list(mono(1, 1), mono(2, 1), mono(-3, 1)), nil, 1},
		{list(mono(-1, 0, 1), mono(4, 1, 0), mono(1, 0, 1)), list(mono(4, 1, 0)), 2},
		{list(mono(4, 1, 0), mono(-1, 0, 1), mono(-4, 1, 0), mono(2, 0, 1), mono(-1, 0, 1)), nil, 2},
		{list(term(full(maxBits, maxExp), 8), term(minus(full(maxBits, maxExp)), 8)), nil, 1},
		{list(term(wide(maxBits, -maxExp), 3), mono(1, 2), term(minus(wide(maxBits, -maxExp)), 3)), list(mono(1, 2)), 1},
		// Exponents that are equal but for their places or signs of C.
		{list(mono(1, 1, 2, 3), mono(1, 3, 2, 1), mono(1, 2, 1, 3), mono(1, 1, 3, 2)), list(mono(1, 3, 2, 1), mono(1, 2, 1, 3), mono(1, 1, 3, 2), mono(1, 1, 2, 3)), 3},
		// All that a polynomial of one variable can have, and each twice.
		{some(1, 9), some(1, 9), 1}, {append(some(1, 9), some(1, 9)...), doubled(some(1, 9)), 1},
	} {
		got, err := Make(x.l, x.n)
		yields(t, text(x.l), got, err, x.want)
		if !Right(got, x.n) {
			t.Errorf("Make(%s) = %s, which is not right", text(x.l), text(got))
		}
	}
}

// doubled is p with each C times 2.
func doubled(p []api.Mono) []api.Mono {
	p = copied(p)
	for i := range p {
		p[i].C.Exp++
	}
	return p
}

// TestMakeOrders has the same elements in all orders.
func TestMakeOrders(t *testing.T) {
	for n := 1; n <= api.MaxDim; n++ {
		p := some(n, 4)
		for _, l := range orders(p) {
			got, err := Make(l, n)
			yields(t, text(l), got, err, p)
		}
		twice := list(mono(1, p[0].E...), mono(5, p[1].E...), mono(-3, p[1].E...), mono(7, p[2].E...), mono(-7, p[2].E...))
		for _, l := range orders(twice) {
			got, err := Make(l, n)
			yields(t, text(l), got, err, list(mono(1, p[0].E...), mono(2, p[1].E...)))
		}
	}
}

// TestMakeEach has each monomial there is beside another one.
func TestMakeEach(t *testing.T) {
	for n := 1; n <= api.MaxDim; n++ {
		for _, e := range exps(n, api.MaxDeg) {
			zeros := make([]int, n)
			got, err := Make(list(mono(3, zeros...), mono(5, e...), mono(2, e...)), n)
			want := list(mono(7, e...), mono(3, zeros...))
			if slices.Equal(e, zeros) {
				want = list(mono(10, zeros...))
			}
			yields(t, text(want), got, err, want)
		}
	}
}

// P10.2: the number of monomials, before and after some are joined or removed.

func TestMakeTerms(t *testing.T) {
	for n := 2; n <= api.MaxDim; n++ {
		full, long := some(n, api.MaxTerms), some(n, api.MaxTerms+1)
		got, err := Make(full, n)
		yields(t, "MaxTerms", got, err, full)
		got, err = Make(append(full, full...), n)
		yields(t, "MaxTerms twice", got, err, doubled(full))
		got, err = Make(slices.Repeat(list(mono(1, full[0].E...)), api.MaxTerms+1), n)
		yields(t, "MaxTerms + 1 that are one", got, err, list(mono(api.MaxTerms+1, full[0].E...)))
		for _, l := range tooLong(n) {
			for _, l := range [][]api.Mono{l, reversed(l), append(copied(l), l...)} {
				got, err := Make(l, n)
				fails(t, "too many monomials", got, err, api.ErrLong)
			}
		}
		for i, m := range long {
			rest := slices.Delete(slices.Clone(long), i, i+1)
			got, err = Make(append(long, term(minus(m.C), m.E...)), n)
			yields(t, "MaxTerms + 1, of which one cancels", got, err, rest)
			got, err = Make(but(long, i, mono(0, m.E...)), n)
			yields(t, "MaxTerms + 1, of which one is 0", got, err, rest)
			got, err = Make(append(long, m, m, term(minus(m.C), m.E...)), n)
			fails(t, "MaxTerms + 1, of which one almost cancels", got, err, api.ErrLong)
		}
		// All but one cancel, or all.
		every := some(n, len(exps(n, api.MaxDeg)))
		l := copied(every)
		for i := range every[1:] {
			l = append(l, term(minus(every[i+1].C), every[i+1].E...))
		}
		got, err = Make(l, n)
		yields(t, "all but one cancel", got, err, every[:1])
		got, err = Make(append(l, term(minus(every[0].C), every[0].E...)), n)
		yields(t, "all cancel", got, err, nil)
	}
}

// P10.2: sums, which are exact whatever leads to them.

// sum is that of the parts, if a valid number has its value.
type sum struct {
	parts []api.Num
	want  api.Num
	ok    bool
}

func exactSums() []sum {
	top, low := of(1, maxExp), of(1, -maxExp)
	return []sum{
		{[]api.Num{of(1, 0), of(1, 0)}, of(1, 1), true}, {[]api.Num{of(3, -5), of(5, -3)}, of(23, -5), true}, {[]api.Num{of(1, 64), of(-1, 0)}, full(64, 0), true},
		{[]api.Num{full(64, 0), of(1, 0)}, of(1, 64), true}, {[]api.Num{full(640, -3), of(1, -3)}, of(1, 637), true}, {[]api.Num{of(1, 640), of(-1, 3)}, full(637, 3), true},
		{[]api.Num{of(1, 63), of(1, 63), of(1, 64)}, of(1, 65), true}, {[]api.Num{of(1, -64), of(1, 64)}, api.Num{Exp: -64, W: []uint64{1, 0, 1}}, true},
		{[]api.Num{of(1, 100), minus(wide(101, 0)), of(3, 0)}, of(1, 1), true}, {[]api.Num{of(-1, 100), wide(101, 0), of(-3, 0)}, of(-1, 1), true},
		// The limits of bits.
		{[]api.Num{of(1, maxBits-1), of(1, 0)}, wide(maxBits, 0), true}, {[]api.Num{of(1, maxBits), of(1, 0)}, api.Num{}, false},
		{[]api.Num{of(1, maxBits), of(-1, 0)}, full(maxBits, 0), true}, {[]api.Num{of(-1, maxBits+1), of(1, 0)}, api.Num{}, false},
		{[]api.Num{full(maxBits, 0), of(1, 0)}, of(1, maxBits), true}, {[]api.Num{full(maxBits, 0), of(1, 1)}, api.Num{}, false},
		{[]api.Num{full(maxBits, 0), full(maxBits, 0)}, full(maxBits, 1), true}, {[]api.Num{full(maxBits, 0), full(maxBits, 1)}, api.Num{}, false},
		{[]api.Num{of(1, maxBits), of(1, 0), of(-1, 0)}, of(1, maxBits), true}, {[]api.Num{of(1, maxBits), of(1, 0), of(-1, maxBits-1)}, wide(maxBits, 0), true},
		{[]api.Num{of(1, 0), of(1, 20000), of(-1, 20000)}, of(1, 0), true}, {[]api.Num{full(maxBits, 0), of(1, 1), of(-3, 0)}, full(maxBits-1, 1), true},
		// The limits of exponents.
		{[]api.Num{top, top}, api.Num{}, false}, {[]api.Num{top, top, top}, of(3, maxExp), true}, {[]api.Num{top, top, minus(top)}, top, true},
		{[]api.Num{of(3, maxExp), minus(top)}, api.Num{}, false}, {[]api.Num{minus(top), minus(top)}, api.Num{}, false}, {[]api.Num{top, of(-1, maxExp-1)}, of(1, maxExp-1), true},
		{[]api.Num{low, low}, of(1, 1-maxExp), true}, {[]api.Num{of(3, -maxExp), minus(low)}, of(1, 1-maxExp), true}, {[]api.Num{minus(low), of(1, 1-maxExp)}, low, true},
		{[]api.Num{full(maxBits, maxExp), top}, api.Num{}, false}, {[]api.Num{full(maxBits, maxExp), top, minus(full(maxBits, maxExp))}, top, true},
		// As far apart as can be.
		{[]api.Num{top, low}, api.Num{}, false}, {[]api.Num{top, minus(low)}, api.Num{}, false}, {[]api.Num{top, low, minus(top)}, low, true}, {[]api.Num{low, top, minus(low)}, top, true},
		{[]api.Num{full(maxBits, maxExp), full(maxBits, -maxExp), minus(full(maxBits, maxExp))}, full(maxBits, -maxExp), true},
		{[]api.Num{minus(full(maxBits, maxExp)), minus(full(maxBits, -maxExp)), full(maxBits, maxExp)}, minus(full(maxBits, -maxExp)), true},
		{[]api.Num{top, minus(low), minus(top)}, minus(low), true}, {[]api.Num{top, low, minus(low)}, top, true}, {[]api.Num{minus(top), low, low}, api.Num{}, false},
	}
}

func TestMakeSums(t *testing.T) {
	for _, x := range exactSums() {
		for n := 1; n <= api.MaxDim; n++ {
			e := exps(n, 3)[2]
			var l []api.Mono
			for _, c := range x.parts {
				l = append(l, term(c, e...))
			}
			for _, l := range orders(l) {
				got, err := Make(l, n)
				if x.ok {
					yields(t, text(l), got, err, list(term(x.want, e...)))
				} else {
					fails(t, text(l), got, err, api.ErrOver)
				}
			}
		}
	}
}

// TestMakeOver has a sum that fails at each place among others, even those of
// too many monomials.
func TestMakeOver(t *testing.T) {
	for n := 1; n <= api.MaxDim; n++ {
		for _, terms := range []int{1, 2, 5, most(n), min(api.MaxTerms+1, len(exps(n, api.MaxDeg))), len(exps(min(n, 2), api.MaxDeg))} {
			p := some(n, terms)
			for i := range p {
				for _, c := range []api.Num{of(1, maxExp), of(3, 2*maxBits), of(-3, -2*maxBits)} {
					// Added to a C of few bits, each needs too many.
					got, err := Make(with(p, 0, term(c, p[i].E...)), n)
					fails(t, "Make", got, err, api.ErrOver)
					got, err = Make(append(p, term(c, p[i].E...)), n)
					fails(t, "Make", got, err, api.ErrOver)
				}
			}
		}
	}
}

// TestMakeMany: the sum of so many numbers carries far.
func TestMakeMany(t *testing.T) {
	long := []api.Num{of(1, 0), of(-3, 5), minus(full(63, 0)), full(maxBits, -7), minus(wide(maxBits, 9)), full(maxBits, maxExp-12)}
	for _, exp := range []int64{1, 31, 62, 63} {
		long = append(long, full(64, exp), minus(full(128, -64-exp)))
	}
	for k := range 13 {
		for _, c := range long {
			got, err := Make(slices.Repeat(list(term(c, 1, 2)), 1<<k), 2)
			want := c
			want.Exp += int64(k)
			yields(t, "a sum of many", got, err, list(term(want, 1, 2)))
		}
	}
	// One more would be 2^maxBits times the last one.
	var l []api.Mono
	for i := range int64(maxBits) {
		l = append(l, mono(1, 0), term(of(1, i), 1))
	}
	got, err := Make(l, 1)
	yields(t, "a sum of powers", got, err, list(term(full(maxBits, 0), 1), mono(maxBits, 0)))
}

// P10.2: Add

func TestAdd(t *testing.T) {
	for _, x := range []struct {
		a, b, want []api.Mono
		n          int
	}{
		{nil, nil, nil, 1}, {nil, nil, nil, 4}, {list(mono(1, 1)), nil, list(mono(1, 1)), 1}, {nil, list(mono(-3, 0, 2)), list(mono(-3, 0, 2)), 2},
		{list(mono(1, 1)), list(mono(1, 1)), list(mono(2, 1)), 1}, {list(mono(1, 1)), list(mono(-1, 1)), nil, 1}, {list(mono(1, 1)), list(mono(1, 0)), list(mono(1, 1), mono(1, 0)), 1},
		{list(mono(1, 0)), list(mono(1, 1)), list(mono(1, 1), mono(1, 0)), 1},
		{list(mono(1, 1, 0), mono(2, 0, 1)), list(mono(1, 1, 0), mono(-2, 0, 1)), list(mono(2, 1, 0)), 2},
		{list(mono(5, 2, 0, 0), mono(3, 0, 0, 0)), list(mono(7, 1, 1, 0), mono(-2, 0, 0, 0)), list(mono(5, 2, 0, 0), mono(7, 1, 1, 0), mono(1, 0, 0, 0)), 3},
		{some(4, 24), some(4, 24), doubled(some(4, 24)), 4}, {some(2, 12), some(2, 24)[12:], some(2, 24), 2}, {some(2, 24)[12:], some(2, 12), some(2, 24), 2},
		{list(term(full(maxBits, 0), 0, 8)), list(mono(1, 0, 8)), list(term(of(1, maxBits), 0, 8)), 2},
	} {
		got, err := Add(x.a, x.b, x.n)
		yields(t, text(x.a)+" plus "+text(x.b), got, err, x.want)
	}
}

func TestAddFails(t *testing.T) {
	top := list(term(of(1, maxExp), 1, 0))
	for _, x := range []struct {
		a, b []api.Mono
		want api.Errno
	}{
		{top, top, api.ErrOver}, {list(mono(1, 1, 0)), top, api.ErrOver}, {append(copied(top), mono(1, 0, 0)), list(mono(1, 0, 1), term(of(1, -maxExp), 0, 0)), api.ErrOver},
		{some(2, 24), some(2, 25)[24:], api.ErrLong}, {some(2, 25)[24:], some(2, 24), api.ErrLong}, {some(2, 24), some(2, 45)[24:], api.ErrLong}, {some(2, 13), some(2, 25)[13:], api.ErrLong},
		{some(2, 24), list(term(of(1, maxExp), 8, 0), mono(1, 0, 0)), api.ErrOver}, // too long, too
		{some(2, 25), nil, api.ErrForm}, {nil, some(2, 25), api.ErrForm},
	} {
		got, err := Add(x.a, x.b, 2)
		fails(t, text(x.a)+" plus "+text(x.b), got, err, x.want)
	}
}

// factors are polynomials of n variables beside which others fail.
func factors(n int) [][]api.Mono {
	high := make([]int, n)
	high[0] = api.MaxDeg
	return [][]api.Mono{nil, list(mono(1, make([]int, n)...)), some(n, most(n)), list(term(of(1, maxExp), high...))}
}

// TestNoOperands: what is no polynomial is none as either operand, though Make
// may accept it, and whatever else would fail.
func TestNoOperands(t *testing.T) {
	calls := map[string]func(a, b []api.Mono, n int) ([]api.Mono, api.Errno){"Add": Add, "Mul": Mul}
	for name, call := range calls {
		for n := 1; n <= api.MaxDim; n++ {
			others := factors(n)
			for rule, p := range noPolys(n) {
				for _, q := range others {
					got, err := call(p, q, n)
					fails(t, name+", first: "+rule, got, err, api.ErrForm)
					got, err = call(q, p, n)
					fails(t, name+", second: "+rule, got, err, api.ErrForm)
				}
				got, err := call(p, p, n)
				fails(t, name+", both: "+rule, got, err, api.ErrForm)
			}
			for _, p := range tooLong(n) {
				for _, q := range others {
					got, err := call(p, q, n)
					fails(t, name+", first too long", got, err, api.ErrForm)
					got, err = call(q, p, n)
					fails(t, name+", second too long", got, err, api.ErrForm)
				}
			}
			for k := -1; k <= api.MaxDim+1; k++ {
				if k == n {
					continue
				}
				got, err := call(some(n, 2), some(n, 2), k)
				fails(t, name+" of another number of variables", got, err, api.ErrForm)
				got, err = call(some(n, 2), nil, k)
				fails(t, name+" of another number of variables, first", got, err, api.ErrForm)
				got, err = call(nil, some(n, 2), k)
				fails(t, name+" of another number of variables, second", got, err, api.ErrForm)
			}
		}
		for _, n := range noDims() {
			got, err := call(nil, nil, n)
			fails(t, name+" of no number of variables", got, err, api.ErrForm)
		}
	}
}
