package poly

import (
	"fmt"
	"slices"
	"testing"

	"fathomline/api"
)

// P10.3: At

// ints are the valid numbers of these values.
func ints(values ...int64) []api.Num {
	var x []api.Num
	for _, v := range values {
		x = append(x, odd(v, 0))
	}
	return x
}

// checkAt expects the result, or an error and nothing beside it.
func checkAt(t *testing.T, p []api.Mono, x []api.Num, want api.Num, wantErr api.Errno) {
	t.Helper()
	if got, err := At(p, x); err != wantErr || !equal(got, want) {
		var texts []string
		for _, y := range x {
			texts = append(texts, numText(y))
		}
		t.Errorf("At(%s, %v) = %s, %d, not %s, %d", text(p), texts, numText(got), err, numText(want), wantErr)
	}
}

func TestAt(t *testing.T) {
	p := list(mono(3, 2, 1), mono(5, 1, 0), mono(-1, 0, 4), mono(7, 0, 0))
	for _, x := range []struct {
		p    []api.Mono
		x    []api.Num
		want api.Num
	}{
		{p, ints(0, 0), odd(7, 0)}, {p, ints(2, 1), odd(28, 0)}, {p, ints(-1, 1), odd(4, 0)}, {p, []api.Num{of(1, -1), of(-1, 1)}, odd(-8, 0)},
		{p, ints(1, 0), odd(12, 0)}, {p, ints(0, 1), odd(6, 0)}, {p, []api.Num{of(1, -1), of(1, -2)}, of(2479, -8)},
		{nil, ints(5), api.Num{}}, {nil, ints(1, 2, 3, 4), api.Num{}}, {list(mono(-7, 0)), ints(0), odd(-7, 0)}, {list(mono(-7, 0, 0, 0, 0)), ints(9, 9, 9, 9), odd(-7, 0)},
		{list(mono(1, 1), mono(1, 0)), ints(-1), api.Num{}}, {list(mono(1, 8)), ints(-2), odd(256, 0)}, {list(mono(1, 7)), ints(-2), odd(-128, 0)}, {list(mono(-1, 7)), ints(-2), odd(128, 0)},
		{list(mono(1, 1), mono(-1, 0)), []api.Num{of(1, -1)}, of(-1, -1)}, {list(mono(1, 2), mono(-1, 1)), ints(1), api.Num{}},
		{list(mono(1, 1, 2, 3, 2)), ints(2, 3, 5, 7), odd(2*9*125*49, 0)}, {list(mono(1, 0, 0, 0, 1)), ints(2, 3, 5, 7), odd(7, 0)}, {list(mono(1, 0, 0, 2, 0)), ints(2, 3, 5, 7), odd(25, 0)},
		{some(1, 9), ints(1), odd(45, 0)}, {some(1, 9), ints(0), odd(9, 0)}, {some(1, 9), ints(-1), odd(5, 0)}, {some(4, 24), ints(1, 1, 1, 1), odd(300, 0)},
		{list(mono(1, 1)), []api.Num{{W: []uint64{}}}, api.Num{}}, {list(mono(-3, 1), mono(-1, 0)), ints(0), odd(-1, 0)},
		// With carries through words, and no words at all.
		{list(mono(1, 2), mono(2, 1), mono(1, 0)), []api.Num{full(64, 0)}, of(1, 128)}, {list(mono(1, 2), mono(-1, 0)), []api.Num{of(1, 64)}, full(128, 0)},
		{list(mono(1, 4), mono(-1, 0)), []api.Num{of(1, 64)}, full(256, 0)}, {list(mono(1, 3), mono(3, 2), mono(3, 1), mono(1, 0)), []api.Num{full(100, -7)}, valueSum(full(100, -7))},
		{list(mono(1, 2), mono(-1, 0)), []api.Num{of(-1, 0)}, api.Num{}},
	} {
		checkAt(t, x.p, x.x, x.want, api.OK)
	}
}

// valueSum is (x + 1)^3.
func valueSum(x api.Num) api.Num {
	d := valueOf(x).plus(whole(1))
	y, _ := d.times(d).times(d).number()
	return y
}

// TestAtEach has each monomial there is: the primes tell which one it is.
func TestAtEach(t *testing.T) {
	primes := []int64{2, -3, 5, -7}
	for n := 1; n <= api.MaxDim; n++ {
		for _, e := range exps(n, api.MaxDeg) {
			want := int64(-11)
			for i, k := range e {
				for range k {
					want *= primes[i]
				}
			}
			checkAt(t, list(mono(-11, e...)), ints(primes[:n]...), odd(want, 0), api.OK)
		}
	}
}

func TestAtForm(t *testing.T) {
	for n := 1; n <= api.MaxDim; n++ {
		x := slices.Repeat(ints(1), n)
		over := slices.Repeat([]api.Num{of(1, maxExp)}, n)
		high := slices.Repeat([]int{2}, n)
		polys := [][]api.Mono{nil, list(mono(1, make([]int, n)...)), list(mono(1, high...)), some(n, most(n))}
		for rule, p := range noPolys(n) {
			for _, x := range [][]api.Num{x, over, make([]api.Num, n)} {
				if got, err := At(p, x); err != api.ErrForm || !isZero(got) {
					t.Errorf("%s: At(%s) = %s, %d", rule, text(p), numText(got), err)
				}
			}
		}
		for _, p := range tooLong(n) {
			checkAt(t, p, x, api.Num{}, api.ErrForm)
		}
		for _, p := range polys {
			for i := range n {
				for _, y := range invalid() {
					for _, others := range [][]api.Num{x, over, make([]api.Num, n)} {
						others = slices.Clone(others)
						others[i] = y
						checkAt(t, p, others, api.Num{}, api.ErrForm)
					}
				}
			}
			for k := range 2 * api.MaxDim {
				if k == n || len(p) == 0 && k > 0 && k <= api.MaxDim {
					continue
				}
				checkAt(t, p, slices.Repeat(ints(1), k), api.Num{}, api.ErrForm)
				checkAt(t, p, slices.Repeat([]api.Num{of(1, maxExp)}, k), api.Num{}, api.ErrForm)
			}
		}
	}
	for k := api.MaxDim + 1; k < 100; k++ {
		checkAt(t, nil, make([]api.Num, k), api.Num{}, api.ErrForm)
		checkAt(t, list(mono(1, make([]int, k)...)), make([]api.Num, k), api.Num{}, api.ErrForm)
	}
	checkAt(t, nil, nil, api.Num{}, api.ErrForm)
	checkAt(t, list(mono(1)), nil, api.Num{}, api.ErrForm)
}

// TestAtLimits has values that no valid number is though each part of them is
// one, and the other way round.
func TestAtLimits(t *testing.T) {
	top, low, long := of(1, maxExp), of(1, -maxExp), full(maxBits, 0)
	half := full(maxBits/2, 0)
	difference := list(mono(1, 2, 0), mono(-1, 0, 2), mono(1, 0, 0)) // and 1
	highest := list(mono(1, 8, 0), mono(-1, 0, 8), mono(5, 0, 0))
	for _, x := range []struct {
		p    []api.Mono
		x    []api.Num
		want api.Num
		err  api.Errno
	}{
		// Each term has a number, and the sum none.
		{list(mono(1, 1), mono(1, 0)), []api.Num{top}, api.Num{}, api.ErrOver}, {list(mono(1, 1), mono(1, 0)), []api.Num{low}, api.Num{}, api.ErrOver},
		{list(mono(1, 1, 0), mono(1, 0, 1)), []api.Num{top, top}, api.Num{}, api.ErrOver}, {list(mono(1, 1, 0), mono(1, 0, 1)), []api.Num{top, low}, api.Num{}, api.ErrOver},
		{list(mono(1, 1), mono(1, 0)), []api.Num{of(1, maxBits)}, api.Num{}, api.ErrOver}, {list(mono(1, 1), mono(-1, 0)), []api.Num{of(1, maxBits)}, long, api.OK},
		{list(mono(1, 1), mono(2, 0)), []api.Num{long}, api.Num{}, api.ErrOver}, {list(mono(1, 1), mono(1, 0)), []api.Num{long}, of(1, maxBits), api.OK},
		{list(mono(1, 1), mono(1, 0)), []api.Num{of(1, maxBits-1)}, wide(maxBits, 0), api.OK},
		// Each factor has one, and the product none.
		{list(mono(1, 2)), []api.Num{of(1, maxExp/2+1)}, api.Num{}, api.ErrOver}, {list(mono(1, 2)), []api.Num{of(1, maxExp/2)}, top, api.OK},
		{list(mono(1, 2)), []api.Num{of(3, -maxExp/2-1)}, api.Num{}, api.ErrOver}, {list(mono(1, 2)), []api.Num{of(3, -maxExp/2)}, of(9, -maxExp), api.OK},
		{list(mono(1, 8)), []api.Num{of(1, maxExp/8)}, top, api.OK}, {list(mono(1, 8)), []api.Num{of(-1, maxExp/8+1)}, api.Num{}, api.ErrOver}, {list(mono(2, 1)), []api.Num{top}, api.Num{}, api.ErrOver},
		{list(mono(1, 8)), []api.Num{top}, api.Num{}, api.ErrOver}, {list(mono(1, 8)), []api.Num{low}, api.Num{}, api.ErrOver}, {list(mono(1, 1, 1)), []api.Num{long, long}, api.Num{}, api.ErrOver}, {list(mono(3, 1)), []api.Num{long}, api.Num{}, api.ErrOver},
		{list(term(half, 1)), []api.Num{wide(maxBits/2+1, 0)}, long, api.OK}, {list(mono(1, 1, 1)), []api.Num{wide(maxBits/2+1, 0), wide(maxBits/2+1, 0)}, api.Num{}, api.ErrOver},
		// A product has none without its last factor.
		{list(mono(1, 1, 1, 1)), []api.Num{top, top, low}, top, api.OK}, {list(mono(1, 4, 4)), []api.Num{top, low}, odd(1, 0), api.OK}, {list(term(low, 2)), []api.Num{top}, top, api.OK},
		{list(term(top, 1, 1)), []api.Num{top, low}, top, api.OK}, {list(term(low, 1, 1)), []api.Num{low, top}, low, api.OK}, {list(term(long, 1, 1)), []api.Num{top, low}, long, api.OK},
		{list(term(top, 1, 1)), []api.Num{top, {}}, api.Num{}, api.OK}, {list(term(top, 7, 1)), []api.Num{{}, top}, api.Num{}, api.OK}, {list(term(minus(long), 8)), []api.Num{{}}, api.Num{}, api.OK},
		// Terms have none, and cancel.
		{difference, []api.Num{of(1, 40000), of(-1, 40000)}, odd(1, 0), api.OK}, {difference, []api.Num{top, minus(top)}, odd(1, 0), api.OK}, {difference, []api.Num{low, low}, odd(1, 0), api.OK},
		{difference, []api.Num{long, long}, odd(1, 0), api.OK}, {difference, []api.Num{full(maxBits, maxExp), minus(full(maxBits, maxExp))}, odd(1, 0), api.OK}, {difference, []api.Num{of(1, 40000), odd(1, 0)}, api.Num{}, api.ErrOver},
		{difference[:2], []api.Num{of(1, maxBits), of(1, maxBits-1)}, of(3, 2*maxBits-2), api.OK}, {difference[:2], []api.Num{long, full(maxBits-1, 1)}, full(maxBits+1, 0), api.ErrOver},
		{highest, []api.Num{top, top}, odd(5, 0), api.OK}, {highest, []api.Num{full(maxBits, maxExp), full(maxBits, maxExp)}, odd(5, 0), api.OK}, {highest, []api.Num{full(maxBits, -maxExp), minus(full(maxBits, -maxExp))}, odd(5, 0), api.OK},
		{highest, []api.Num{top, low}, api.Num{}, api.ErrOver}, {highest, []api.Num{full(maxBits, -maxExp), full(maxBits, maxExp)}, api.Num{}, api.ErrOver},
		// So far apart as can be, and all but one of them cancel.
		{list(term(top, 8, 0, 0), term(minus(top), 0, 8, 0), term(low, 0, 0, 8)), []api.Num{top, top, {}}, api.Num{}, api.OK},
		{list(term(top, 8, 0, 0), term(minus(top), 0, 8, 0), term(top, 0, 0, 1)), []api.Num{top, top, low}, odd(1, 0), api.OK},
		{list(term(top, 8, 0, 0), term(minus(top), 0, 8, 0), term(low, 0, 0, 1)), []api.Num{top, minus(top), low}, api.Num{}, api.ErrOver},
		{list(term(top, 8, 0), term(low, 0, 8)), []api.Num{top, low}, api.Num{}, api.ErrOver}, {list(term(minus(top), 8, 0), term(minus(low), 0, 8)), []api.Num{top, low}, api.Num{}, api.ErrOver},
		// What no number is stays so, whichever sign it has.
		{list(mono(-1, 8)), []api.Num{top}, api.Num{}, api.ErrOver}, {list(mono(-1, 1), mono(-1, 0)), []api.Num{of(1, maxBits)}, api.Num{}, api.ErrOver}, {list(mono(-1, 1), mono(1, 0)), []api.Num{of(1, maxBits)}, minus(long), api.OK},
	} {
		if x.err != api.OK {
			x.want = api.Num{}
		}
		checkAt(t, x.p, x.x, x.want, x.err)
	}
}

// TestAtReference has arguments of all sizes. In half of them two are equal but
// for the sign, so that terms may cancel.
func TestAtReference(t *testing.T) {
	s, seen := source(3), map[api.Errno]int{}
	for range 12000 {
		n := 1 + s.below(api.MaxDim)
		kind := 1 + s.below(3)
		p := s.poly(n, s.below(40)>>s.below(5), 1+s.below(api.MaxDeg), kind)
		var x []api.Num
		for range n {
			x = append(x, s.number(min(kind, s.kind())))
		}
		if n > 1 && s.below(2) == 0 {
			p, x = mirrored(p, x)
		}
		want, wantErr := wantAt(p, x)
		checkAt(t, p, x, want, wantErr)
		seen[wantErr]++
		if t.Failed() {
			return
		}
	}
	if seen[api.OK] < 1000 || seen[api.ErrOver] < 500 || seen[api.ErrForm] < 500 {
		t.Errorf("results: %v", seen)
	}
}

// mirrored has for each term of p one with the first two variables swapped,
// which cancels it, and the same number for both. One term is left out.
func mirrored(p []api.Mono, x []api.Num) ([]api.Mono, []api.Num) {
	var parts []part
	for i, m := range p[:min(len(p), 9)] {
		if len(m.E) != len(x) || !isPart(m, len(x)) {
			continue
		}
		e := slices.Clone(m.E)
		e[0], e[1] = e[1], e[0]
		parts = append(parts, part{valueOf(m.C), m.E})
		if i > 0 {
			parts = append(parts, part{valueOf(minus(m.C)), e})
		}
	}
	x = slices.Clone(x)
	x[1] = x[0]
	if q, err := wantJoined(parts); err == api.OK {
		return q, x
	}
	return p, x
}

// TestAtAgainstProducts: the value of a sum or product is that of the parts'
// values, and that of a derivative of x^k is k x^(k-1).
func TestAtAgainstProducts(t *testing.T) {
	s, done := source(4), 0
	for range 3000 {
		n := 1 + s.below(api.MaxDim)
		a, b := s.poly(n, s.below(6), 4, 2), s.poly(n, s.below(6), 4, 2)
		var x []api.Num
		for range n {
			x = append(x, s.number(1+s.below(3)))
		}
		sum, err1 := Add(a, b, n)
		product, err2 := Mul(a, b, n)
		if err1 != api.OK || err2 != api.OK {
			continue
		}
		done++
		var values []dyadic
		for _, y := range x {
			values = append(values, valueOf(y))
		}
		v, w := exactAt(a, values), exactAt(b, values)
		for i, want := range []dyadic{v.plus(w), v.times(w)} {
			number, ok := want.number()
			err := api.OK
			if !ok {
				err = api.ErrOver
			}
			checkAt(t, [][]api.Mono{sum, product}[i], x, number, err)
		}
	}
	if done < 2000 {
		t.Errorf("only %d pairs", done)
	}
	for k := 1; k <= api.MaxDeg; k++ {
		d, _ := Diff(list(mono(1, k)), 0, 1)
		want := int64(k)
		for range k - 1 {
			want *= 3
		}
		if got, err := At(d, ints(3)); err != api.OK || !equal(got, odd(want, 0)) {
			t.Error(fmt.Sprint("the derivative of x^", k, " at 3 is ", numText(got)))
		}
	}
}
