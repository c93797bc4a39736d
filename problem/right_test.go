package problem

import (
	"fmt"
	"math"
	"slices"
	"testing"

	"fathomline/api"
)

// P13.1

func checkRight(t *testing.T, name string, p api.Problem, want bool) {
	t.Helper()
	if got := Right(p); got != want {
		t.Errorf("%s: Right(%s) = %v", name, message(p), got)
	}
}

func TestRight(t *testing.T) {
	for n := 1; n <= api.MaxDim; n++ {
		checkRight(t, "simple", simple(n), true)
		for name, c := range rights(n) {
			checkRight(t, name, changed(simple(n), c), true)
		}
		for name, c := range wrongs(n) {
			checkRight(t, name, changed(simple(n), c), false)
		}
	}
	checkRight(t, "zero value", api.Problem{}, false)
}

// TestRightBoth has two components replaced: one that is not valid is enough.
func TestRightBoth(t *testing.T) {
	const n = 2
	for name, wrong := range wrongs(n) {
		for other, c := range rights(n) {
			checkRight(t, other+", "+name, changed(changed(simple(n), c), wrong), false)
		}
	}
	for name, x := range notPositive() {
		for other, y := range notPositive() {
			p := changed(changed(simple(n), setLeast(x)), setMost(y))
			checkRight(t, "Least: "+name+", Most: "+other, p, false)
			checkRight(t, "Until: "+other, changed(p, setUntil(y)), false)
		}
	}
}

// TestRightField has all that no field is.
func TestRightField(t *testing.T) {
	for rule, f := range noFields() {
		p := simple(min(max(1, len(f)), api.MaxDim))
		checkRight(t, rule, changed(p, setField(f)), false)
		p.Box = slices.Repeat(p.Box[:1], len(f))
		checkRight(t, rule, changed(p, setField(f)), false)
	}
}

// TestRightLengths has a field and a box of each length.
func TestRightLengths(t *testing.T) {
	for n := range 2 * api.MaxDim {
		for k := range 2 * api.MaxDim {
			p := simple(1)
			p.Field, p.Box = make([][]api.Mono, n), make([]api.Iv, k)
			checkRight(t, fmt.Sprintf("%d, %d", n, k), p, n == k && n >= 1 && n <= api.MaxDim)
		}
	}
}

// TestRightSteps has each two numbers as the least step and the greatest one.
func TestRightSteps(t *testing.T) {
	for i, least := range positive() {
		for k, most := range positive() {
			p := changed(changed(simple(2), setLeast(least)), setMost(most))
			checkRight(t, fmt.Sprintf("number %d to number %d", i, k), p, i <= k)
			checkRight(t, "end before the first step", changed(p, setUntil(of(1, -maxExp))), i <= k)
		}
	}
}

func TestRightIntegers(t *testing.T) {
	for k := -300; k <= api.MaxBudget+300; k++ {
		for _, x := range []struct {
			name      string
			c         change
			low, high int
		}{{"Prec", setPrec(k), 8, 256}, {"Order", setOrder(k), 2, 10}, {"Budget", setBudget(k), 1, 4096}} {
			checkRight(t, fmt.Sprint(x.name, k), changed(simple(1), x.c), x.low <= k && k <= x.high)
		}
	}
}

func checkSame(t *testing.T, p, q api.Problem) bool {
	t.Helper()
	want := equalProblem(p, q)
	if got := Same(p, q); got != want {
		t.Errorf("Same(%s, %s) = %v", message(p), message(q), got)
	}
	return want
}

// differing are changes of one component of simple(n), no two of them alike, and
// none to what it is in simple(n).
func differing(n int) map[string]change {
	l := map[string]change{
		"Field: one less": setField(linear(n)[:n-1]), "Field: one more": setField(append(linear(n), nil)),
		"Box: one less": setBox(spans(n)[:n-1]), "Box: one more": setBox(append(spans(n), api.Iv{})),
		"Prec": setPrec(65), "Order": setOrder(5), "Budget": setBudget(101),
		"Prec not valid": setPrec(math.MaxInt), "Order not valid": setOrder(-4), "Budget not valid": setBudget(0),
	}
	for i := range n {
		for k := range linear(n)[i] {
			m := linear(n)[i][k]
			for name, other := range map[string]api.Mono{
				"sign":       monoOf(minus(m.C), m.E...),
				"word":       monoOf(api.Num{Exp: m.C.Exp, W: []uint64{m.C.W[0] + 2}}, m.E...),
				"words":      monoOf(api.Num{Exp: m.C.Exp, W: append(slices.Clone(m.C.W), 0)}, m.E...),
				"power of 2": monoOf(api.Num{Exp: m.C.Exp - 1, W: m.C.W}, m.E...),
				"exponent":   monoOf(m.C, with(m.E, n-1, 3)...),
				"exponents":  monoOf(m.C, append(slices.Clone(m.E), 0)...),
				"no C":       {E: m.E},
				"no E":       {C: m.C},
			} {
				l[fmt.Sprintf("Field at %d, %d: %s", i, k, name)] = setField(with(linear(n), i, with(linear(n)[i], k, other)))
			}
		}
		l[fmt.Sprintf("Field at %d: nil", i)] = setField(with(linear(n), i, nil))
		for name, x := range numbers() {
			l[fmt.Sprintf("Lo at %d: %s", i, name)] = setBox(with(spans(n), i, api.Iv{Lo: x, Hi: spans(n)[i].Hi}))
			l[fmt.Sprintf("Hi at %d: %s", i, name)] = setBox(with(spans(n), i, api.Iv{Lo: spans(n)[i].Lo, Hi: x}))
		}
	}
	for name, x := range numbers() {
		l["Until: "+name], l["Most: "+name], l["Least: "+name] = setUntil(x), setMost(x), setLeast(x)
	}
	return l
}

// numbers are none of those of simple.
func numbers() map[string]api.Num {
	l := invalid()
	for _, x := range []api.Num{of(11, 0), of(-11, 0), of(11, 1), full(64, 0), full(65, 0), wide(65, 0), full(maxBits, maxExp), minus(wide(maxBits, 0))} {
		l[numText(x)] = x
	}
	return l
}

// TestSame has each two problems that differ from the same one in a single
// component.
func TestSame(t *testing.T) {
	for n := 1; n <= 2; n++ {
		same, l := 0, []api.Problem{simple(n)}
		for _, c := range differing(n) {
			l = append(l, changed(simple(n), c))
		}
		for _, p := range l {
			for _, q := range l {
				if checkSame(t, p, q) {
					same++
				}
			}
		}
		if same != len(l) {
			t.Errorf("%d variables: %d of %d problems are the same as one of them", n, same, len(l))
		}
	}
}

// TestSameOfAny: no two of these problems are the same, whether valid or not.
func TestSameOfAny(t *testing.T) {
	for n := 1; n <= api.MaxDim; n++ {
		p := simple(n)
		for _, changes := range []map[string]change{rights(n), wrongs(n), differing(n)} {
			for name, c := range changes {
				q := changed(simple(n), c)
				if equalProblem(p, q) || Same(p, q) || Same(q, p) {
					t.Errorf("%s: the same", name)
				}
				if !Same(q, changed(simple(n), c)) {
					t.Errorf("%s: not the same as itself", name)
				}
			}
		}
		for k := 1; k <= api.MaxDim; k++ {
			if checkSame(t, p, simple(k)) != (k == n) {
				t.Errorf("%d and %d variables", n, k)
			}
		}
	}
}

// TestSameOfEmpty: nil and empty lists are equivalent.
func TestSameOfEmpty(t *testing.T) {
	empty := api.Problem{Field: [][]api.Mono{}, Box: []api.Iv{}, Until: api.Num{W: []uint64{}}}
	p, q := simple(2), simple(2)
	p.Field, q.Field = fieldOf(nil, list(mono(1, 1, 0))), fieldOf(list(), list(mono(1, 1, 0)))
	p.Box, q.Box = []api.Iv{{}, {}}, []api.Iv{point(api.Num{W: []uint64{}}), {}}
	if !Same(empty, api.Problem{}) || !Same(api.Problem{}, empty) || !Same(p, q) || !Same(q, p) || !Right(p) || !Right(q) {
		t.Error("nil and empty lists differ")
	}
}
