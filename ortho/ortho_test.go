package ortho

import (
	"fmt"
	"math"
	"slices"
	"strings"
	"testing"

	"fathomline/api"
	"fathomline/digits"
)

const (
	all     = math.MaxUint64
	maxBits = 64 * api.MaxWords
	maxExp  = api.MaxExp
)

// of is m times 2^exp, as it is written: valid if m is odd.
func of(m, exp int64) api.Num {
	if m < 0 {
		return api.Num{Neg: true, Exp: exp, W: []uint64{-uint64(m)}}
	}
	return api.Num{Exp: exp, W: []uint64{uint64(m)}}
}

// odd is the valid number m times 2^exp.
func odd(m, exp int64) api.Num {
	if m == 0 {
		return api.Num{}
	}
	for m%2 == 0 {
		m, exp = m/2, exp+1
	}
	return of(m, exp)
}

// minus is -x; a 0 stays as it is.
func minus(x api.Num) api.Num {
	x.Neg = !x.Neg && len(x.W) > 0
	return x
}

// wide is 2^(bits-1) + 1 times 2^exp: that many bits, the outer ones 1.
func wide(bits int, exp int64) api.Num {
	w := make([]uint64, (bits+63)/64)
	w[(bits-1)/64] = 1 << ((bits - 1) % 64)
	w[0] |= 1
	return api.Num{Exp: exp, W: w}
}

// full is 2^bits - 1 times 2^exp.
func full(bits int, exp int64) api.Num {
	w := slices.Repeat([]uint64{all}, (bits+63)/64)
	w[len(w)-1] >>= uint(64*len(w) - bits)
	return api.Num{Exp: exp, W: w}
}

// matrix is that of a text of valid numbers, with semicolons between the rows.
func matrix(text string) [][]api.Num {
	var a [][]api.Num
	for _, line := range strings.Split(text, ";") {
		var r []api.Num
		for _, s := range strings.Fields(line) {
			x, err := digits.Parse(s)
			if err != api.OK {
				panic("no number: " + s)
			}
			r = append(r, x)
		}
		a = append(a, r)
	}
	return a
}

// text is what matrix makes a matrix of, for messages.
func text(a [][]api.Num) string {
	var lines []string
	for _, r := range mapped(a, digits.Text) {
		lines = append(lines, strings.Join(r, " "))
	}
	return strings.Join(lines, "; ")
}

// filled is the matrix of n rows and columns of the same number.
func filled(n int, x api.Num) [][]api.Num { return shaped(n, n, x) }

func shaped(rows, columns int, x api.Num) [][]api.Num {
	var a [][]api.Num
	for range rows {
		a = append(a, slices.Repeat([]api.Num{x}, columns))
	}
	return a
}

// diagonal has the same number on its diagonal, and 0 elsewhere.
func diagonal(n int, x api.Num) [][]api.Num {
	a := filled(n, api.Num{})
	for i := range n {
		a[i][i] = x
	}
	return a
}

// unit is the identity matrix of size n, and half is half of it.
func unit(n int) [][]api.Num { return diagonal(n, of(1, 0)) }

func half(n int) [][]api.Num { return diagonal(n, of(1, -1)) }

// but is a with another number at one position.
func but(a [][]api.Num, i, j int, x api.Num) [][]api.Num {
	r := slices.Clone(a[i])
	r[j] = x
	return butRow(a, i, r)
}

func butRow(a [][]api.Num, i int, r []api.Num) [][]api.Num {
	a = slices.Clone(a)
	a[i] = r
	return a
}

// butColumn is a with the numbers of c as its column j.
func butColumn(a [][]api.Num, j int, c []api.Num) [][]api.Num {
	for i, x := range c {
		a = but(a, i, j, x)
	}
	return a
}

// flipped has the columns of a as its rows.
func flipped[T any](a [][]T) [][]T {
	var b [][]T
	for j := range a {
		var r []T
		for i := range a {
			r = append(r, a[i][j])
		}
		b = append(b, r)
	}
	return b
}

// orders are all orders of the numbers below n.
func orders(n int) [][]int {
	if n == 0 {
		return [][]int{nil}
	}
	var list [][]int
	for _, order := range orders(n - 1) {
		for i := range n {
			list = append(list, slices.Insert(slices.Clone(order), i, n-1))
		}
	}
	return list
}

// ordered has the rows of a in another order.
func ordered[T any](a [][]T, order []int) [][]T {
	var b [][]T
	for _, i := range order {
		b = append(b, a[i])
	}
	return b
}

func equal(a, b api.Num) bool {
	return a.Neg == b.Neg && a.Exp == b.Exp && slices.Equal(a.W, b.W)
}

func equalNums(a, b [][]api.Num) bool {
	return slices.EqualFunc(a, b, func(x, y []api.Num) bool { return slices.EqualFunc(x, y, equal) })
}

// yields expects a result of Columns.
func yields(t *testing.T, a [][]api.Num, prec int, want [][]api.Num) {
	t.Helper()
	if got, err := Columns(a, prec); err != api.OK || !equalNums(got, want) {
		t.Errorf("Columns(%s, %d) = %s, %d, not %s", text(a), prec, text(got), err, text(want))
	}
}

// fails expects an error of Columns and nothing beside it.
func fails(t *testing.T, a [][]api.Num, prec int, want api.Errno, what string) {
	t.Helper()
	if got, err := Columns(a, prec); err != want || len(got) != 0 {
		t.Errorf("%s: Columns to %d bits: %s, %d, not %d", what, prec, text(got), err, want)
	}
}

// inside are values of prec in range, both bounds among them.
func inside() []int {
	return []int{api.MinPrec, api.MinPrec + 1, 63, 64, 65, 128, api.MaxPrec - 1, api.MaxPrec}
}

// outside are values of prec that are out of range.
func outside() []int {
	return []int{api.MinPrec - 1, api.MaxPrec + 1, 0, 1, -1, -api.MinPrec, -api.MaxPrec, 1<<32 + api.MinPrec, math.MaxInt32, math.MaxInt, math.MinInt}
}

// invalid are numbers that are not valid (P2.1), by the reason.
func invalid() map[string]api.Num {
	return map[string]api.Num{
		"0 that is negated":      {Neg: true},
		"0 with an exponent":     {Exp: 1},
		"highest word 0":         {W: []uint64{1, 0}},
		"lowest bit 0":           of(2, 0),
		"one word too many":      wide(maxBits+1, 0),
		"exponent above MaxExp":  of(1, maxExp+1),
		"exponent below -MaxExp": of(-1, -maxExp-1),
	}
}

// misshapen are matrices of valid numbers that are not square or have no size
// in range, by the reason.
func misshapen() map[string][][]api.Num {
	one := of(1, 0)
	list := map[string][][]api.Num{
		"nil":                    nil,
		"no row":                 {},
		"no row, but room":       make([][]api.Num, 0, api.MaxDim),
		"MaxDim + 1 rows":        filled(api.MaxDim+1, one),
		"MaxDim + 1 rows of 0":   filled(api.MaxDim+1, api.Num{}),
		"twice MaxDim rows":      filled(2*api.MaxDim, one),
		"2^8 + MaxDim rows":      filled(1<<8+api.MaxDim, one),
		"very many rows":         shaped(1<<16, 1, one),
		"one very long row":      shaped(1, 1<<16, one),
		"MaxDim + 1 empty rows":  make([][]api.Num, api.MaxDim+1),
		"an identity beyond all": unit(api.MaxDim + 1),
	}
	for n := 1; n <= api.MaxDim; n++ {
		list[fmt.Sprintf("%d empty rows", n)] = make([][]api.Num, n)
		list[fmt.Sprintf("%d rows, all shorter", n)] = shaped(n, n-1, one)
		list[fmt.Sprintf("%d rows, all longer", n)] = shaped(n, n+1, one)
		for i := range n {
			a := unit(n)
			list[fmt.Sprintf("%d rows, %d empty", n, i)] = butRow(a, i, nil)
			list[fmt.Sprintf("%d rows, %d shorter", n, i)] = butRow(a, i, a[i][:n-1])
			list[fmt.Sprintf("%d rows, %d longer", n, i)] = butRow(a, i, append(slices.Clone(a[i]), api.Num{}))
			if n > 1 {
				// As many numbers as a square has.
				other := butRow(a, i, a[i][1:])
				list[fmt.Sprintf("%d rows, %d shorter, another longer", n, i)] = butRow(other, (i+1)%n, append(slices.Clone(a[i]), one))
			}
		}
	}
	return list
}

// P9.1: ErrForm

func TestShapes(t *testing.T) {
	for rule, a := range misshapen() {
		for _, prec := range append(inside(), outside()...) {
			fails(t, a, prec, api.ErrForm, rule)
		}
	}
	for n := 1; n <= api.MaxDim; n++ {
		yields(t, unit(n), 8, half(n))
	}
}

// TestOneInvalidNumber has it at each position, beside numbers that would lead
// to a result, to ErrZero or to ErrOver.
func TestOneInvalidNumber(t *testing.T) {
	for rule, x := range invalid() {
		for n := 1; n <= api.MaxDim; n++ {
			for i := range n {
				for j := range n {
					fails(t, but(unit(n), i, j, x), 8, api.ErrForm, rule)
					fails(t, but(filled(n, api.Num{}), i, j, x), 8, api.ErrForm, rule+", beside 0")
					fails(t, but(filled(n, of(257, maxExp)), i, j, x), 8, api.ErrForm, rule+", beside great numbers")
					fails(t, but(unit(n), i, j, x), 7, api.ErrForm, rule+", and prec")
				}
			}
		}
	}
}

// TestValidNumbers: a 0 may have words that are empty but not nil, and numbers
// may be as long and as far from 1 as can be.
func TestValidNumbers(t *testing.T) {
	zero := api.Num{W: []uint64{}}
	yields(t, [][]api.Num{{zero, of(1, 0)}, {of(1, 0), zero}}, 8, matrix("0 1p-1; 1p-1 0"))
	yields(t, [][]api.Num{{of(1, maxExp), zero}, {zero, of(-1, -maxExp)}}, 8, matrix("1p-1 0; 0 -1p-1"))
	for _, exp := range []int64{-maxExp, 0, maxExp} {
		yields(t, [][]api.Num{{full(maxBits, exp)}}, 8, [][]api.Num{{full(maxBits, -maxBits)}})
		yields(t, [][]api.Num{{minus(wide(maxBits, exp))}}, 8, [][]api.Num{{minus(wide(maxBits, -maxBits))}})
	}
}

func TestPrec(t *testing.T) {
	for _, a := range [][][]api.Num{
		matrix("1"), matrix("0"), matrix("1 2; 2 4"), matrix("0 1; 1 0"), matrix("1p65536 0; 1p-65536 0"), matrix("1 257p65536; 0 1"),
		filled(3, of(1, 0)), unit(4),
	} {
		for _, prec := range outside() {
			fails(t, a, prec, api.ErrForm, "prec out of range")
		}
	}
	// Here the first c is two thirds, rounded to prec bits.
	for prec := api.MinPrec; prec <= api.MaxPrec; prec++ {
		if check(t, matrix("1 1 0; 1 0 1; 1 0 0"), prec) != "OK" {
			t.Errorf("Columns to %d bits fails", prec)
		}
	}
}
