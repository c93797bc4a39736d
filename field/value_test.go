package field

import (
	"fmt"
	"math"
	"slices"
	"testing"

	"fathomline/api"
	"fathomline/poly"
)

// P11.2: At and Range

// checkAt expects the result, or an error and nothing beside it.
func checkAt(t *testing.T, f [][]api.Mono, x, want []api.Num, wantErr api.Errno) {
	t.Helper()
	if got, err := At(f, x); err != wantErr || !equalNums(got, want) {
		t.Errorf("At(%s, %s) = %s, %d, not %s, %d", text(f), numsText(x), numsText(got), err, numsText(want), wantErr)
	}
}

// checkRange expects the result, or an error and nothing beside it.
func checkRange(t *testing.T, f [][]api.Mono, b []api.Iv, prec int, want []api.Iv, wantErr api.Errno) {
	t.Helper()
	if got, err := Range(f, b, prec); err != wantErr || !equalBox(got, want) {
		t.Errorf("Range(%s, %s, %d) = %s, %d, not %s, %d", text(f), boxText(b), prec, boxText(got), err, boxText(want), wantErr)
	}
}

// points are the box of the numbers alone.
func points(x []api.Num) []api.Iv {
	var b []api.Iv
	for _, y := range x {
		b = append(b, point(y))
	}
	return b
}

func TestAt(t *testing.T) {
	vanDerPol := fieldOf(list(mono(1, 0, 1)), list(mono(-1, 2, 1), mono(-1, 1, 0), mono(1, 0, 1)))
	for _, x := range []struct {
		f       [][]api.Mono
		x, want []api.Num
	}{
		{fieldOf(list(mono(1, 1))), ints(-5), ints(-5)}, {fieldOf(list(mono(1, 8))), ints(2), ints(256)}, {fieldOf(nil), ints(7), ints(0)},
		{vanDerPol, ints(2, 3), ints(3, -11)}, {vanDerPol, ints(0, 0), ints(0, 0)}, {vanDerPol, []api.Num{of(1, -1), of(-3, 1)}, []api.Num{of(-3, 1), odd(-5, 0)}},
		{linear(1), ints(9), ints(18)}, {linear(2), ints(1, 10), ints(32, 75)}, {linear(3), ints(1, 10, 100), ints(532, 1417, 2507)},
		{linear(4), ints(1, 10, 100, 1000), ints(7532, 20841, 40413, 58171)},
		{make([][]api.Mono, 4), ints(1, 2, 3, 4), ints(0, 0, 0, 0)}, {fieldOf(list(mono(5, 0, 0)), list(mono(-7, 0, 0))), ints(0, 0), ints(5, -7)},
		{with(linear(3), 1, nil), ints(1, 10, 100), ints(532, 0, 2507)},
		{fieldOf(list(mono(1, 0, 0, 1)), list(mono(1, 1, 0, 0)), list(mono(1, 0, 1, 0))), ints(11, 12, 13), ints(13, 11, 12)},
		// Values are exact.
		{fieldOf(list(mono(1, 2, 0), mono(-1, 0, 2), mono(1, 0, 0)), list(mono(1, 1, 0))), []api.Num{of(1, 40000), of(-1, 40000)}, []api.Num{odd(1, 0), of(1, 40000)}},
		{fieldOf(list(mono(1, 2), mono(-1, 0))), []api.Num{of(1, 2000)}, []api.Num{full(4000, 0)}},
	} {
		checkAt(t, x.f, x.x, x.want, api.OK)
	}
}

func TestRange(t *testing.T) {
	vanDerPol := fieldOf(list(mono(1, 0, 1)), list(mono(-1, 2, 1), mono(-1, 1, 0), mono(1, 0, 1)))
	for _, x := range []struct {
		f       [][]api.Mono
		b, want []api.Iv
	}{
		{fieldOf(list(mono(1, 1))), boxOf(spanOf(-5, 3)), boxOf(spanOf(-5, 3))}, {fieldOf(nil), boxOf(spanOf(1, 2)), boxOf(spanOf(0, 0))},
		{fieldOf(list(mono(1, 2), mono(-1, 1))), boxOf(spanOf(-1, 2)), boxOf(spanOf(-2, 5))},
		{vanDerPol, boxOf(spanOf(1, 2), spanOf(-3, 1)), boxOf(spanOf(-3, 1), spanOf(-9, 12))},
		{linear(2), boxOf(spanOf(-1, 1), spanOf(1, 4)), boxOf(spanOf(1, 14), spanOf(2, 33))},
		{linear(3), boxOf(spanOf(0, 1), spanOf(-1, 2), spanOf(0, 3)), boxOf(spanOf(-3, 23), spanOf(-11, 68), spanOf(-19, 124))},
		{linear(4), boxOf(spanOf(0, 1), spanOf(0, 0), spanOf(1, 1), spanOf(-1, 0)), boxOf(spanOf(-2, 7), spanOf(-2, 28), spanOf(-6, 54), spanOf(-6, 88))},
		{make([][]api.Mono, 4), slices.Repeat(boxOf(spanOf(-9, 9)), 4), slices.Repeat(boxOf(spanOf(0, 0)), 4)},
		{with(linear(2), 0, nil), boxOf(spanOf(-1, 1), spanOf(1, 4)), boxOf(spanOf(0, 0), spanOf(2, 33))},
		// Each polynomial's values are rounded to 8 bits.
		{fieldOf(list(mono(1, 1, 0), mono(1, 0, 0)), list(mono(-1, 0, 1), mono(-1, 0, 0))), boxOf(spanOf(256, 256), spanOf(-1, 256)), boxOf(from(odd(256, 0), odd(258, 0)), from(odd(-258, 0), odd(0, 0)))},
		{fieldOf(list(mono(257, 0, 0)), list(mono(1, 0, 2))), boxOf(spanOf(0, 0), spanOf(17, 17)), boxOf(spanOf(256, 258), spanOf(288, 290))},
	} {
		checkRange(t, x.f, x.b, 8, x.want, api.OK)
	}
}

// TestPrecs has a value of as many bits as are kept, and one more.
func TestPrecs(t *testing.T) {
	for prec := api.MinPrec; prec <= api.MaxPrec; prec++ {
		f := fieldOf(list(mono(1, 0, 1), mono(1, 0, 0)), list(mono(1, 1, 0), mono(-1, 0, 0)))
		top := int64(prec)
		b := boxOf(point(of(1, top)), point(of(1, top-1)))
		checkRange(t, f, b, prec, boxOf(point(wide(prec, 0)), point(full(prec, 0))), api.OK)
		b = boxOf(point(of(1, top+1)), point(of(1, top)))
		checkRange(t, f, b, prec, boxOf(from(of(1, top), wide(prec, 1)), from(full(prec, 1), of(1, top+1))), api.OK)
	}
}

// noPrecs are out of range.
func noPrecs() []int {
	return []int{api.MinPrec - 1, api.MaxPrec + 1, 0, 1, -1, -api.MinPrec, 2 * api.MaxPrec, 1 << 16, 1<<32 + 64, math.MaxInt, math.MinInt}
}

// failsForm expects ErrForm of At and of Range, and nothing beside it.
func failsForm(t *testing.T, what string, f [][]api.Mono, x []api.Num) {
	t.Helper()
	if got, err := At(f, x); err != api.ErrForm || len(got) != 0 {
		t.Errorf("%s: At(%s, %s) = %s, %d", what, text(f), numsText(x), numsText(got), err)
	}
	if got, err := Range(f, points(x), 64); err != api.ErrForm || len(got) != 0 {
		t.Errorf("%s: Range(%s, %s) = %s, %d", what, text(f), numsText(x), boxText(got), err)
	}
}

// TestNoFields has points of as many numbers as there are polynomials, and as
// they have variables. At some of them a value has no valid number.
func TestNoFields(t *testing.T) {
	for rule, f := range noFields() {
		lengths := []int{len(f)}
		for _, p := range f {
			if len(p) > 0 && !slices.Contains(lengths, len(p[0].E)) {
				lengths = append(lengths, len(p[0].E))
			}
		}
		for _, n := range lengths {
			failsForm(t, rule, f, slices.Repeat(ints(1), n))
			failsForm(t, rule, f, slices.Repeat([]api.Num{of(1, maxExp)}, n))
		}
	}
}

// TestOtherLengths: empty polynomials have values at points of any length, but
// fields have none.
func TestOtherLengths(t *testing.T) {
	for n := 1; n <= api.MaxDim; n++ {
		for name, f := range fields(n) {
			for k := range 3 * api.MaxDim {
				if k == n {
					continue
				}
				what := fmt.Sprintf("%s of %d variables", name, n)
				failsForm(t, what, f, make([]api.Num, k))
				failsForm(t, what, f, slices.Repeat(ints(1), k))
				failsForm(t, what, f, slices.Repeat([]api.Num{of(1, maxExp)}, k))
			}
		}
	}
}

// noIvs are what no valid intervals are, by the reason.
func noIvs() map[string]api.Iv {
	l := map[string]api.Iv{"from 1 to 0": spanOf(1, 0), "from 0 to -1": spanOf(0, -1), "from far above": from(of(1, maxExp), of(1, -maxExp))}
	for rule, x := range invalid() {
		l["Lo: "+rule] = from(x, odd(9, 0))
		l["Hi: "+rule] = from(odd(-9, 0), x)
		l["both: "+rule] = point(x)
	}
	return l
}

// TestInvalidPoints has a number or an interval at each index that is not
// valid. With the others, values may have no valid number: it is ErrForm still.
func TestInvalidPoints(t *testing.T) {
	for n := 1; n <= api.MaxDim; n++ {
		over := slices.Repeat(fieldOf(list(mono(1, slices.Repeat([]int{2}, n)...))), n)
		for name, f := range fields(n) {
			for _, f := range [][][]api.Mono{f, with(f, 0, over[0]), with(f, n-1, over[0])} {
				for _, others := range [][]api.Num{make([]api.Num, n), slices.Repeat(ints(1), n), slices.Repeat([]api.Num{of(1, maxExp)}, n)} {
					for i := range n {
						for rule, x := range invalid() {
							checkAt(t, f, with(others, i, x), nil, api.ErrForm)
							if t.Failed() {
								t.Fatalf("%s: %s at %d", name, rule, i)
							}
						}
						for rule, a := range noIvs() {
							checkRange(t, f, with(points(others), i, a), 64, nil, api.ErrForm)
							if t.Failed() {
								t.Fatalf("%s: %s at %d", name, rule, i)
							}
						}
					}
				}
			}
		}
	}
}

func TestInvalidPrecs(t *testing.T) {
	for n := 1; n <= api.MaxDim; n++ {
		over := slices.Repeat(fieldOf(list(mono(1, slices.Repeat([]int{2}, n)...))), n)
		for _, f := range fields(n) {
			for _, f := range [][][]api.Mono{f, with(f, 0, over[0]), with(f, n-1, over[0])} {
				for _, prec := range noPrecs() {
					checkRange(t, f, slices.Repeat(boxOf(spanOf(-1, 1)), n), prec, nil, api.ErrForm)
					checkRange(t, f, slices.Repeat(boxOf(point(of(1, maxExp))), n), prec, nil, api.ErrForm)
				}
				for _, prec := range []int{api.MinPrec, api.MaxPrec} {
					b := make([]api.Iv, n)
					if got, err := Range(f, b, prec); err != api.OK || len(got) != n {
						t.Errorf("Range(%s, .., %d) = %s, %d", text(f), prec, boxText(got), err)
					}
				}
			}
		}
	}
}

// TestOver has a value at each index that no valid number has, while the others
// have one.
func TestOver(t *testing.T) {
	for n := 1; n <= api.MaxDim; n++ {
		for i := range n {
			e := make([]int, n)
			e[n-1-i] = 2
			for _, x := range []api.Num{of(1, maxExp), of(-1, maxExp), of(1, -maxExp)} {
				at := slices.Repeat([]api.Num{x}, n)
				for name, f := range map[string][][]api.Mono{"linear": mirrors(n), "empty": make([][]api.Mono, n), "constant": fields(n)["constant"]} {
					if got, err := At(f, at); err != api.OK || len(got) != n {
						t.Fatalf("%s: At = %s, %d", name, numsText(got), err)
					}
					checkAt(t, with(f, i, list(mono(-3, e...))), at, nil, api.ErrOver)
					if got, err := Range(f, points(at), 8); err != api.OK || len(got) != n {
						t.Fatalf("%s: Range = %s, %d", name, boxText(got), err)
					}
					checkRange(t, with(f, i, list(mono(-3, e...))), points(at), 8, nil, api.ErrOver)
				}
			}
		}
	}
	// A value may have a number where its range has none: what is between is too far.
	f := fieldOf(list(mono(1, 0, 1)), list(mono(1, 2, 0), mono(-1, 0, 2)))
	x := []api.Num{of(1, 40000), of(-1, 40000)}
	checkAt(t, f, x, []api.Num{of(-1, 40000), {}}, api.OK)
	checkRange(t, f, points(x), 8, nil, api.ErrOver)
	// And the other way round: a value may have too many bits.
	g := fieldOf(list(mono(1, 1, 0), mono(1, 0, 1)), list(mono(1, 0, 0)))
	y := []api.Num{of(1, maxExp), odd(1, 0)}
	checkAt(t, g, y, nil, api.ErrOver)
	checkRange(t, g, points(y), 8, boxOf(from(of(1, maxExp), of(129, maxExp-7)), spanOf(1, 1)), api.OK)
}

// mirrors is the field that has the variables in reverse order.
func mirrors(n int) [][]api.Mono {
	f := make([][]api.Mono, n)
	for i := range n {
		f[i] = list(mono(1, single(n, n-1-i)...))
	}
	return f
}

// TestAgainstPoly: each result is that of package poly for the polynomial at
// the index.
func TestAgainstPoly(t *testing.T) {
	s, seen := source(1), map[api.Errno]int{}
	for range 6000 {
		n := 1 + s.below(api.MaxDim)
		f, b := s.field(n), s.box(n)
		prec := api.MinPrec + s.below(api.MaxPrec-api.MinPrec+1)
		var want []api.Iv
		wantErr := api.OK
		for _, p := range f {
			a, err := poly.Range(p, b, prec)
			if want = append(want, a); err != api.OK && wantErr == api.OK {
				wantErr = err
			}
		}
		if !isField(f) || len(b) != len(f) {
			wantErr = api.ErrForm
		}
		if wantErr != api.OK {
			want = nil
		}
		checkRange(t, f, b, prec, want, wantErr)
		seen[wantErr]++
		if t.Failed() {
			return
		}
	}
	if seen[api.OK] < 500 || seen[api.ErrOver] < 200 || seen[api.ErrForm] < 200 {
		t.Errorf("results: %v", seen)
	}
}
