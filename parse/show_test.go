package parse

import (
	"fmt"
	"slices"
	"strings"
	"testing"

	"fathomline/api"
)

// P12.1

func checkShow(t *testing.T, f [][]api.Mono, want string) {
	t.Helper()
	if got := Show(f); got != want {
		t.Errorf("Show(%s) = %q, not %q", text(f), got, want)
	}
}

// shown are polynomials of three variables, by their texts.
func shown() map[string][]api.Mono {
	one := func(c, exp int64, e ...int) []api.Mono { return list(monoOf(of(c, exp), e...)) }
	return map[string][]api.Mono{
		"0": nil, "1": one(1, 0, 0, 0, 0), "-1": one(-1, 0, 0, 0, 0), "3": one(3, 0, 0, 0, 0), "-3": one(-3, 0, 0, 0, 0), "3p-2": one(3, -2, 0, 0, 0), "-1p7": one(-1, 7, 0, 0, 0), "1p65536": one(1, 65536, 0, 0, 0),
		"x1": one(1, 0, 1, 0, 0), "x2": one(1, 0, 0, 1, 0), "x3": one(1, 0, 0, 0, 1), "-x1": one(-1, 0, 1, 0, 0), "-x3": one(-1, 0, 0, 0, 1), "x2^2": one(1, 0, 0, 2, 0), "-x3^8": one(-1, 0, 0, 0, 8),
		"x1*x2*x3": one(1, 0, 1, 1, 1), "-x1*x3^2": one(-1, 0, 1, 0, 2), "x1^3*x2^4*x3": one(1, 0, 3, 4, 1), "-x2^7*x3": one(-1, 0, 0, 7, 1),
		"1p1*x1": one(1, 1, 1, 0, 0), "-1p1*x1": one(-1, 1, 1, 0, 0), "1p-1*x2^2": one(1, -1, 0, 2, 0), "3*x1": one(3, 0, 1, 0, 0), "-3p7*x2*x3^5": one(-3, 7, 0, 1, 5), "-18446744073709551615p-65536*x1^2*x2*x3": list(monoOf(minus(full(64, -65536)), 2, 1, 1)),
		"x1 + 1": list(mono(1, 1, 0, 0), mono(1, 0, 0, 0)), "x1 - 1": list(mono(1, 1, 0, 0), mono(-1, 0, 0, 0)), "-x1 + 1": list(mono(-1, 1, 0, 0), mono(1, 0, 0, 0)), "-x1 - 1": list(mono(-1, 1, 0, 0), mono(-1, 0, 0, 0)),
		"x1 + x2": list(mono(1, 1, 0, 0), mono(1, 0, 1, 0)), "x1 - x2": list(mono(1, 1, 0, 0), mono(-1, 0, 1, 0)), "-x1^2*x2 - x1*x3^2": list(mono(-1, 2, 1, 0), mono(-1, 1, 0, 2)),
		"-1p2*x1^2 + 3*x1*x2 - x3^4 + x3 - 1p-3": list(mono(-4, 2, 0, 0), mono(3, 1, 1, 0), mono(-1, 0, 0, 4), mono(1, 0, 0, 1), monoOf(of(-1, -3), 0, 0, 0)),
		"x1^8 - x2^8 + 5*x3^8":                   list(mono(1, 8, 0, 0), mono(-1, 0, 8, 0), mono(5, 0, 0, 8)),
	}
}

// TestShow has each polynomial in each line.
func TestShow(t *testing.T) {
	for want, p := range shown() {
		for i := range 3 {
			checkShow(t, with(make([][]api.Mono, 3), i, p), lines(with([]string{"0", "0", "0"}, i, want)...))
			checkShow(t, with(linear(3), i, p), lines(with([]string{"1p1*x1 + 3*x2 + 5*x3", "7*x1 + 11*x2 + 13*x3", "17*x1 + 19*x2 + 23*x3"}, i, want)...))
		}
	}
}

// TestShowLines has fields of each number of lines.
func TestShowLines(t *testing.T) {
	rights := []string{"0", "0", "0", "0"}
	for n := 1; n <= api.MaxDim; n++ {
		checkShow(t, make([][]api.Mono, n), lines(rights[:n]...))
		checkShow(t, fields(n)["constant"], lines(slices.Repeat([]string{"-3"}, n)...))
		for i := range n {
			for j := range n {
				f := with(make([][]api.Mono, n), i, list(mono(-1, single(n, j)...)))
				checkShow(t, f, lines(with(rights[:n], i, fmt.Sprintf("-x%d", j+1))...))
			}
		}
	}
	checkShow(t, linear(1), "x1' = 1p1*x1\n")
	checkShow(t, linear(2), "x1' = 1p1*x1 + 3*x2\nx2' = 5*x1 + 7*x2\n")
	checkShow(t, linear(4)[:0], "")
}

// TestShowSigns has each sign of a first and of a following term, with and
// without a coefficient and variables.
func TestShowSigns(t *testing.T) {
	texts := map[int64]string{1: "", 2: "1p1*", 3: "3*", 7: "7*"}
	constants := map[int64]string{1: "1", 2: "1p1", 3: "3", 7: "7"}
	for a, first := range texts {
		for b, second := range texts {
			for c, third := range constants {
				for signs := range 8 {
					sign := func(i int) int64 { return 1 - 2*int64(signs>>i&1) }
					p := list(mono(a*sign(0), 3, 1), mono(b*sign(1), 0, 2), mono(c*sign(2), 0, 0))
					want := []string{"", "-"}[signs&1] + first + "x1^3*x2" + []string{" + ", " - "}[signs>>1&1] + second + "x2^2" + []string{" + ", " - "}[signs>>2] + third
					checkShow(t, fieldOf(p, p[2:]), lines(want, []string{"", "-"}[signs>>2]+third))
				}
			}
		}
	}
}

// TestShowExponents has all exponents of each number of variables.
func TestShowExponents(t *testing.T) {
	for n := 1; n <= api.MaxDim; n++ {
		rights := slices.Repeat([]string{"0"}, n)
		for _, e := range exps(n, api.MaxDeg) {
			var parts []string
			for i, k := range e {
				switch {
				case k == 1:
					parts = append(parts, fmt.Sprintf("x%d", i+1))
				case k > 1:
					parts = append(parts, fmt.Sprintf("x%d^%d", i+1, k))
				}
			}
			five, one := strings.Join(append([]string{"5"}, parts...), "*"), strings.Join(parts, "*")
			if one == "" {
				one = "1"
			}
			f := make([][]api.Mono, n)
			checkShow(t, with(f, n-1, list(mono(5, e...))), lines(with(rights, n-1, five)...))
			checkShow(t, with(f, 0, list(mono(-1, e...))), lines(with(rights, 0, "-"+one)...))
		}
	}
}

// TestShowManyTerms has as many terms as there can be.
func TestShowManyTerms(t *testing.T) {
	want := "x1^8 - 1p1*x1^7*x2 + 3*x1^7 - 1p2*x1^6*x2^2 + 5*x1^6*x2 - 3p1*x1^6 + 7*x1^5*x2^3 - 1p3*x1^5*x2^2 + 9*x1^5*x2 - 5p1*x1^5 + 11*x1^4*x2^4 - 3p2*x1^4*x2^3 + 13*x1^4*x2^2 - 7p1*x1^4*x2 + 15*x1^4 - 1p4*x1^3*x2^5 + 17*x1^3*x2^4 - 9p1*x1^3*x2^3 + 19*x1^3*x2^2 - 5p2*x1^3*x2 + 21*x1^3 - 11p1*x1^2*x2^6 + 23*x1^2*x2^5 - 3p3*x1^2*x2^4"
	p := some(2, api.MaxTerms)
	for i := range p {
		if i%2 > 0 {
			p[i].C = minus(p[i].C)
		}
	}
	checkShow(t, fieldOf(p, nil), lines(want, "0"))
	checkShow(t, fieldOf(p[1:], p), lines("-"+strings.TrimPrefix(want, "x1^8 - "), want))
}

func TestShowNoField(t *testing.T) {
	for rule, f := range noFields() {
		if got := Show(f); got != "" {
			t.Errorf("%s: Show(%s) = %q", rule, text(f), got)
		}
	}
}
