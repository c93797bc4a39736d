package field

import (
	"slices"
	"testing"

	"fathomline/api"
)

// P11.2: Jac

// checkJac expects the result, or an error and nothing beside it.
func checkJac(t *testing.T, f [][]api.Mono, want [][][]api.Mono, wantErr api.Errno) {
	t.Helper()
	if got, err := Jac(f); err != wantErr || !equalMatrix(got, want) {
		t.Errorf("Jac(%s) = %s, %d, not %s, %d", text(f), matrixText(got), err, matrixText(want), wantErr)
	}
}

func TestJac(t *testing.T) {
	for _, x := range []struct {
		f    [][]api.Mono
		want [][][]api.Mono
	}{
		// The chapter's example.
		{fieldOf(list(mono(1, 1, 1)), list(mono(1, 0, 0))), [][][]api.Mono{{list(mono(1, 0, 1)), list(mono(1, 1, 0))}, {nil, nil}}},
		{fieldOf(list(mono(1, 0, 0)), list(mono(1, 1, 1))), [][][]api.Mono{{nil, nil}, {list(mono(1, 0, 1)), list(mono(1, 1, 0))}}},
		{fieldOf(nil), [][][]api.Mono{{nil}}}, {fieldOf(list(mono(7, 0))), [][][]api.Mono{{nil}}}, {fieldOf(list(mono(1, 1))), [][][]api.Mono{{list(mono(1, 0))}}},
		{fieldOf(list(mono(1, 8), mono(-3, 2), mono(5, 1), mono(9, 0))), [][][]api.Mono{{list(mono(8, 7), mono(-6, 1), mono(5, 0))}}},
		{fieldOf(list(mono(1, 0, 1)), list(mono(-1, 2, 1), mono(-1, 1, 0), mono(1, 0, 1))), [][][]api.Mono{{nil, list(mono(1, 0, 0))}, {list(mono(-2, 1, 1), mono(-1, 0, 0)), list(mono(-1, 2, 0), mono(1, 0, 0))}}},
		{
			// Lorenz' field.
			fieldOf(list(mono(-10, 1, 0, 0), mono(10, 0, 1, 0)), list(mono(-1, 1, 0, 1), mono(28, 1, 0, 0), mono(-1, 0, 1, 0)), list(mono(1, 1, 1, 0), mono(-3, 0, 0, 1))),
			[][][]api.Mono{
				{list(mono(-10, 0, 0, 0)), list(mono(10, 0, 0, 0)), nil},
				{list(mono(-1, 0, 0, 1), mono(28, 0, 0, 0)), list(mono(-1, 0, 0, 0)), list(mono(-1, 1, 0, 0))},
				{list(mono(1, 0, 1, 0)), list(mono(1, 1, 0, 0)), list(mono(-3, 0, 0, 0))},
			},
		},
		{
			fieldOf(nil, list(mono(1, 1, 2, 3, 2)), nil, list(mono(1, 0, 0, 4, 0))),
			[][][]api.Mono{
				make([][]api.Mono, 4),
				{list(mono(1, 0, 2, 3, 2)), list(mono(2, 1, 1, 3, 2)), list(mono(3, 1, 2, 2, 2)), list(mono(2, 1, 2, 3, 1))},
				make([][]api.Mono, 4),
				{nil, nil, list(mono(4, 0, 0, 3, 0)), nil},
			},
		},
	} {
		checkJac(t, x.f, x.want, api.OK)
	}
}

// TestJacSizes has the coefficients of linear fields at their rows and columns,
// and empty polynomials where there are none.
func TestJacSizes(t *testing.T) {
	for n := 1; n <= api.MaxDim; n++ {
		constant := make([]int, n)
		want, none := make([][][]api.Mono, n), make([][][]api.Mono, n)
		for i, p := range linear(n) {
			none[i] = make([][]api.Mono, n)
			for _, m := range p {
				want[i] = append(want[i], list(term(m.C, constant...)))
			}
		}
		checkJac(t, linear(n), want, api.OK)
		checkJac(t, make([][]api.Mono, n), none, api.OK)
		checkJac(t, fields(n)["constant"], none, api.OK)
		for i := range n {
			checkJac(t, with(linear(n), i, nil), with(want, i, none[i]), api.OK)
		}
	}
}

func TestJacForm(t *testing.T) {
	for rule, f := range noFields() {
		checkJac(t, f, nil, api.ErrForm)
		if t.Failed() {
			t.Fatal(rule)
		}
	}
}

// TestJacOver has one derivative at each row and column that has no valid
// number. If the field is none, it is ErrForm still, wherever that is.
func TestJacOver(t *testing.T) {
	for n := 1; n <= api.MaxDim; n++ {
		for i := range n {
			for j := range n {
				for _, x := range []api.Mono{term(of(1, maxExp), with(make([]int, n), j, 2)...), term(minus(full(maxBits, 0)), with(make([]int, n), j, 7)...)} {
					for _, f := range [][][]api.Mono{linear(n), make([][]api.Mono, n), fields(n)["all terms"]} {
						f = with(f, i, list(x))
						checkJac(t, f, nil, api.ErrOver)
						for k := range n {
							if k == i {
								continue
							}
							for _, p := range noPolys(n) {
								checkJac(t, with(f, k, p), nil, api.ErrForm)
							}
						}
						checkJac(t, append(slices.Clone(f), nil), nil, api.ErrForm)
					}
				}
				// The greatest coefficients that have valid numbers.
				for _, c := range []api.Num{of(1, maxExp-1), full(maxBits-1, 0), full(maxBits, maxExp-1), of(-1, -maxExp)} {
					f := with(make([][]api.Mono, n), i, list(term(c, with(make([]int, n), j, 2)...)))
					got, err := Jac(f)
					want, _ := wantJac(f)
					if err != api.OK || !equalMatrix(got, want) || len(got[i][j]) != 1 {
						t.Errorf("Jac(%s) = %s, %d", text(f), matrixText(got), err)
					}
				}
			}
		}
	}
}
