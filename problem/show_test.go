package problem

import (
	"fmt"
	"strings"
	"testing"

	"fathomline/api"
)

// P13.2

func checkShow(t *testing.T, p api.Problem, want string) {
	t.Helper()
	if got := Show(p); got != want {
		t.Errorf("Show(%s) = %q, not %q", message(p), got, want)
	}
}

// example is the chapter's example.
func example() api.Problem {
	return api.Problem{Field: fieldOf(list(mono(1, 1))), Box: []api.Iv{span(1, 1)}, Until: of(1, 0), Most: of(1, -2), Least: of(1, -20), Prec: 64, Order: 4, Budget: 100}
}

const exampleText = "prec 64\norder 4\nbudget 100\nuntil 1\nmost 1p-2\nleast 1p-20\nbox 1 1\nx1' = x1\n"

func TestShow(t *testing.T) {
	checkShow(t, example(), exampleText)
	const head = "prec 64\norder 4\nbudget 100\nuntil 9\nmost 1p-2\nleast 3p-20\n"
	for n, rest := range []string{
		"box -1 1p1\nx1' = 1p1*x1\n",
		"box -1 1p1\nbox 0 3\nx1' = 1p1*x1 + 3*x2\nx2' = 5*x1 + 7*x2\n",
		"box -1 1p1\nbox 0 3\nbox -5 -1p2\nx1' = 1p1*x1 + 3*x2 + 5*x3\nx2' = 7*x1 + 11*x2 + 13*x3\nx3' = 17*x1 + 19*x2 + 23*x3\n",
		"box -1 1p1\nbox 0 3\nbox -5 -1p2\nbox 3p1 7\nx1' = 1p1*x1 + 3*x2 + 5*x3 + 7*x4\nx2' = 11*x1 + 13*x2 + 17*x3 + 19*x4\nx3' = 23*x1 + 29*x2 + 31*x3 + 37*x4\nx4' = 41*x1 + 43*x2 + 47*x3 + 53*x4\n",
	} {
		checkShow(t, simple(n+1), head+rest)
	}
}

// TestShowEach replaces a single component of the example.
func TestShowEach(t *testing.T) {
	const ones = "18446744073709551615"
	for _, x := range []struct {
		c        change
		old, new string
	}{
		{setPrec(8), "prec 64\n", "prec 8\n"}, {setPrec(256), "prec 64\n", "prec 256\n"}, {setPrec(10), "prec 64\n", "prec 10\n"},
		{setOrder(2), "order 4\n", "order 2\n"}, {setOrder(10), "order 4\n", "order 10\n"},
		{setBudget(1), "budget 100\n", "budget 1\n"}, {setBudget(4096), "budget 100\n", "budget 4096\n"}, {setBudget(999), "budget 100\n", "budget 999\n"},
		{setUntil(of(1, -65536)), "until 1\n", "until 1p-65536\n"}, {setUntil(full(64, 65536)), "until 1\n", "until " + ones + "p65536\n"}, {setUntil(odd(10, 0)), "until 1\n", "until 5p1\n"},
		{setMost(full(64, 0)), "most 1p-2\n", "most " + ones + "\n"}, {setMost(of(1, 65536)), "most 1p-2\n", "most 1p65536\n"}, {setMost(of(1, -20)), "most 1p-2\n", "most 1p-20\n"},
		{setLeast(of(1, -65536)), "least 1p-20\n", "least 1p-65536\n"}, {setLeast(of(1, -2)), "least 1p-20\n", "least 1p-2\n"}, {setLeast(of(123, -45)), "least 1p-20\n", "least 123p-45\n"},
		{setBox([]api.Iv{span(0, 0)}), "box 1 1\n", "box 0 0\n"}, {setBox([]api.Iv{{Lo: minus(full(64, 65536)), Hi: of(-1, -65536)}}), "box 1 1\n", "box -" + ones + "p65536 -1p-65536\n"}, {setBox([]api.Iv{span(-3, 4)}), "box 1 1\n", "box -3 1p2\n"},
		{setField(fieldOf(nil)), "x1' = x1\n", "x1' = 0\n"}, {setField(fieldOf(list(mono(-1, 8), monoOf(of(3, -7), 2), mono(-1, 0)))), "x1' = x1\n", "x1' = -x1^8 + 3p-7*x1^2 - 1\n"},
	} {
		checkShow(t, changed(example(), x.c), strings.Replace(exampleText, x.old, x.new, 1))
	}
}

// TestShowIntegers has all of them.
func TestShowIntegers(t *testing.T) {
	for k := 1; k <= api.MaxBudget; k++ {
		p, want := changed(example(), setBudget(k)), []string{"prec 64", "order 4", fmt.Sprintf("budget %d", k)}
		if Right(changed(p, setPrec(k))) {
			p.Prec, want[0] = k, fmt.Sprintf("prec %d", k)
		}
		if Right(changed(p, setOrder(k))) {
			p.Order, want[1] = k, fmt.Sprintf("order %d", k)
		}
		checkShow(t, p, strings.Join(want, "\n")+exampleText[strings.Index(exampleText, "\nuntil"):])
	}
}

func TestShowOfNotValid(t *testing.T) {
	checkShow(t, api.Problem{}, "")
	for n := 1; n <= api.MaxDim; n++ {
		for _, c := range wrongs(n) {
			checkShow(t, changed(simple(n), c), "")
		}
		for name, c := range rights(n) {
			if p := changed(simple(n), c); Show(p) == "" {
				t.Errorf("%s: Show(%s) is empty", name, message(p))
			}
		}
	}
}
