package ortho

import (
	"slices"
	"testing"

	"fathomline/api"
)

// P9.1

// TestExact has matrices at which nothing is rounded.
func TestExact(t *testing.T) {
	for _, x := range []struct{ a, want string }{
		{"2", "1p-1"}, // the chapter's example
		{"1 1; 0 1", "1p-1 0; 0 1p-1"}, {"1 0; 1 1", "1p-1 -1p-1; 1p-1 1p-1"}, {"1 3; 1 5", "1p-1 -1p-1; 1p-1 1p-1"}, {"0 1; 1 0", "0 1p-1; 1p-1 0"},
		{"1 1; 1 -1", "1p-1 1p-1; 1p-1 -1p-1"}, {"0 5; 4 9", "0 5p-3; 1p-1 0"},
		{"1 2 3; 0 1 4; 0 0 1", "1p-1 0 0; 0 1p-1 0; 0 0 1p-1"}, {"0 0 2; 1 3 0; 0 4 1", "0 0 1p-1; 1p-1 0 0; 0 1p-1 0"},
		{"1 2 3 4; 0 -1 2 3; 0 0 1 2; 0 0 0 -1", "1p-1 0 0 0; 0 -1p-1 0 0; 0 0 1p-1 0; 0 0 0 -1p-1"},
		{"1 3 2 4; 1 1 0 0; 1 3 0 -2; 1 1 -2 2", "1p-1 1p-1 1p-1 1p-1; 1p-1 -1p-1 1p-1 -1p-1; 1p-1 1p-1 -1p-1 -1p-1; 1p-1 -1p-1 -1p-1 1p-1"},
	} {
		for _, prec := range inside() {
			yields(t, matrix(x.a), prec, matrix(x.want))
		}
	}
}

// TestRounded: each operation rounds down, to 8 bits here.
func TestRounded(t *testing.T) {
	for _, x := range []struct{ a, want string }{
		{"3 1; 4 2", "3p-3 -5p-3; 1p-1 31p-6"}, {"3 5; 1 2", "3p-2 -1p-3; 1p-2 39p-6"}, {"1 2; 3 4", "1p-2 77p-7; 3p-2 -3p-4"},
		{"1 1 1; 1 0 0; 0 1 0", "1p-1 1p-2 171p-8; 1p-1 -1p-2 -171p-8; 0 1p-1 -85p-7"},
		{"1 1 1; 1 1 0; 1 0 0", "1p-1 43p-7 1p-1; 1p-1 43p-7 -255p-9; 1p-1 -85p-7 -1p-9"},
		{"1 1 0; 1 0 1; 1 0 0", "1p-1 171p-8 1p-7; 1p-1 -85p-8 1p-1; 1p-1 -85p-8 -1p-1"},
		{"1 2 3; 4 5 6; 7 8 10", "1p-3 105p-7 23p-6; 1p-1 9p-5 -173p-8; 7p-3 -1p-2 83p-8"},
		{"2 -1 0; -1 2 -1; 0 -1 2", "1p-1 77p-8 77p-8; -1p-2 153p-8 149p-8; 0 -1p-1 27p-5"},
		{"5 1 1 1; 1 5 1 1; 1 1 5 1; 1 1 1 5", "5p-3 -9p-6 -101p-10 -155p-11; 1p-3 73p-7 -101p-10 -155p-11; 1p-3 73p-10 35p-6 -39p-9; 1p-3 73p-10 205p-12 137p-8"},
		{"1 1 1 1; 1 2 3 4; 1 3 6 10; 1 4 10 20", "1p-1 -3p-2 1p-1 -5p-4; 1p-1 -1p-2 -1p-1 5p-3; 1p-1 1p-2 -1p-1 -1p-1; 1p-1 3p-2 1p-1 7p-4"},
	} {
		yields(t, matrix(x.a), 8, matrix(x.want))
	}
}

// TestOrder has matrices whose result is another one if any operation rounds
// to another side or is left unrounded, if sums go in another order, if c is a
// product with a reciprocal, if u is divided ahead of the dot product, if -c is
// added, if columns are subtracted in another order or twice, or if the dot
// product is that of u and the column of a.
func TestOrder(t *testing.T) {
	for _, x := range []struct{ a, want string }{
		{"281 -8; 1 -8", "281p-9 3p-8; 1p-9 -1p-1"},
		{"-125 7 -3; 293 9 -9; -129 3 -8", "-125p-9 135p-8 55p-7; 293p-9 45p-7 -11p-7; -129p-9 143p-9 -21p-5"},
		{"2 3 -5 -6; -30 -1 -272 -9; -9 -8 2 -1; 277 -1 268 154", "1p-8 3p-4 -105p-11 -161p-8; -15p-8 -137p-11 -239p-8 -1p-7; -9p-9 -129p-8 221p-11 -123p-9; 277p-9 -49p-11 -93p-10 1p-10"},
	} {
		yields(t, matrix(x.a), 8, matrix(x.want))
	}
}

// TestScaling has orthogonal columns, by their greatest absolute values.
func TestScaling(t *testing.T) {
	for _, x := range []struct{ a, want string }{
		// Exactly one half, exactly 1, other powers of two, and next to them.
		{"1p-1", "1p-1"}, {"1", "1p-1"}, {"8", "1p-1"}, {"1p-20", "1p-1"}, {"1p65536", "1p-1"}, {"1p-65536", "1p-1"},
		{"255p-9", "255p-8"}, {"129p-8", "129p-8"}, {"255p-8", "255p-8"}, {"129p-7", "129p-8"}, {"3", "3p-2"}, {"5", "5p-3"}, {"7p65536", "7p-3"}, {"5p-65536", "5p-3"},
		{"1p-1 1p-2; 1p-2 1p-1", "1p-1 -19p-6; 1p-2 77p-7"}, {"1p-1 1p-2; 1p-2 -1p-1", "1p-1 1p-2; 1p-2 -1p-1"}, {"1 1p-1; 1p-1 -1", "1p-1 1p-2; 1p-2 -1p-1"},
		{"255p-8 1p-1; 1p-1 -255p-8", "255p-8 1p-1; 1p-1 -255p-8"}, {"1 127p-7; 127p-7 -1", "1p-1 127p-8; 127p-8 -1p-1"},
		// Negative.
		{"-1p-1", "-1p-1"}, {"-1", "-1p-1"}, {"-8", "-1p-1"}, {"-3", "-3p-2"}, {"-7", "-7p-3"}, {"-5p-90", "-5p-3"}, {"-3p65536", "-3p-2"},
		{"3 4; -4 3", "3p-3 1p-1; -1p-1 3p-3"}, {"-4 3; 3 4", "-1p-1 3p-3; 3p-3 1p-1"}, {"-5 2; -2 -5", "-5p-3 1p-2; -1p-2 -5p-3"},
		// Shared by two elements, with one sign or two.
		{"5 5; 5 -5", "5p-3 5p-3; 5p-3 -5p-3"}, {"-5 3; 5 3", "-5p-3 3p-2; 5p-3 3p-2"}, {"-1 -1; -1 1", "-1p-1 -1p-1; -1p-1 1p-1"},
		{"2 -1 2; 2 2 -1; -1 2 2", "1p-1 -1p-2 1p-1; 1p-1 1p-1 -1p-2; -1p-2 1p-1 1p-1"},
		// With elements of 0 beside it.
		{"0 3 0; 0 0 9; 1 0 0", "0 3p-2 0; 0 0 9p-4; 1p-1 0 0"}, {"0 0 -1 0; 7 0 0 0; 0 0 0 2; 0 -5 0 0", "0 0 -1p-1 0; 7p-3 0 0 0; 0 0 0 1p-1; 0 -5p-3 0 0"},
	} {
		yields(t, matrix(x.a), 8, matrix(x.want))
	}
	// At each position, for each column.
	for n := 1; n <= api.MaxDim; n++ {
		for _, order := range orders(n) {
			for _, exp := range []int64{-maxExp, -2, -1, 0, 1, maxExp} {
				yields(t, ordered(diagonal(n, of(1, exp)), order), 8, ordered(half(n), order))
				yields(t, ordered(diagonal(n, of(-5, exp)), order), 8, ordered(diagonal(n, of(-5, -3)), order))
			}
		}
	}
}

// TestLongColumns: the scaling does not round, so that the first column stays as
// long as it is. A difference does, even where nothing is subtracted.
func TestLongColumns(t *testing.T) {
	for _, x := range []struct{ a, want string }{
		{"257", "257p-9"}, {"-257", "-257p-9"}, {"257 0; 0 1", "257p-9 0; 0 1p-1"}, {"-257 0; 0 -257", "-257p-9 0; 0 -129p-8"},
		{"1 0; 0 257", "1p-1 0; 0 1p-1"}, {"1 0; 0 -257", "1p-1 0; 0 -129p-8"}, {"1 257; 0 1", "1p-1 1p-1; 0 1p-1"},
		{"257 1; 259 0", "257p-9 65p-7; 259p-9 -127p-8"}, {"1 257p-20; 257p-20 1", "1p-1 -255p-20; 257p-21 255p-8"},
		{"1 0 0; 0 1 0; 0 0 -259", "1p-1 0 0; 0 1p-1 0; 0 0 -65p-7"}, {"257 0 0; 0 259 0; 0 0 261", "257p-9 0 0; 0 129p-8 0; 0 0 65p-7"},
	} {
		yields(t, matrix(x.a), 8, matrix(x.want))
	}
	for n := 1; n <= api.MaxDim; n++ {
		for k := range n {
			for _, bits := range []int{9, 64, 65, 257, 300, maxBits} {
				for _, prec := range inside() {
					places := prec // of what is rounded
					if k == 0 || bits <= prec {
						places = bits
					}
					checkLong(t, n, k, full(bits, -7), prec, full(places, -int64(places)))
					checkLong(t, n, k, minus(wide(bits, 5)), prec, minus(wide(places, -int64(places))))
					if places < bits {
						checkLong(t, n, k, wide(bits, 5), prec, of(1, -1))
						checkLong(t, n, k, minus(full(bits, -7)), prec, of(-1, -1))
					}
				}
			}
		}
	}
}

// checkLong has x as the only element of column k.
func checkLong(t *testing.T, n, k int, x api.Num, prec int, want api.Num) {
	t.Helper()
	yields(t, but(unit(n), k, k, x), prec, but(half(n), k, k, want))
}

// TestSizes has elements of very different sizes.
func TestSizes(t *testing.T) {
	for _, x := range []struct{ a, want string }{
		{"1p60000 0; 0 1p-60000", "1p-1 0; 0 1p-1"}, {"1p65536 0; 0 -1p-65536", "1p-1 0; 0 -1p-1"}, {"0 1p-65536; 1p65536 0", "0 1p-1; 1p-1 0"},
		{"1p15000 1p-15000; 1p-15000 -1p15000", "1p-1 1p-30001; 1p-30001 -1p-1"}, {"1p-10000 1p10000; 0 1", "1p-1 0; 0 1p-1"},
		{"1 1p-20000; 0 1", "1p-1 0; 0 1p-1"}, {"1 1p65535; 0 1", "1p-1 0; 0 1p-1"}, {"3 1p-60; 1p-60 3", "3p-2 -127p-69; 1p-62 191p-8"},
		{"1 1 1; 1p-30 0 0; 0 1p-30 0", "1p-1 0 0; 1p-31 -1p-1 -1p-1; 0 1p-1 -1p-1"}, {"2 2 2; 3p-30000 0 1; 0 1 0", "1p-1 0 0; 3p-30002 -3p-30001 127p-7; 0 1p-1 3p-30000"},
	} {
		yields(t, matrix(x.a), 8, matrix(x.want))
	}
}

// TestColumnsOfZero: a column is 0, or becomes 0, at the first, at a middle or
// at the last column.
func TestColumnsOfZero(t *testing.T) {
	for _, a := range []string{
		"0", "0 0; 0 0", "0 1; 0 1", "0 5; 0 0", "0 1 2; 0 3 4; 0 5 6", "0 1 0 0; 0 0 1 0; 0 0 0 1; 0 1 1 1",
		"1 0; 0 0", "1 0; 1 0", "1 2; 2 4", "1 1; 1 1", "1 -1; 1 -1", "1 1; 0 0", "0 0; 1 7", "3 6; 1 2",
		"1 0 0; 0 0 1; 0 0 2", "1 2 0; 0 0 1; 1 2 0", "1 3 1; 1 3 2; 0 0 1", "1 0 0 0; 0 0 1 0; 0 0 0 1; 0 0 1 1", "1 0 0 0; 0 1 0 0; 0 0 0 1; 0 0 0 2",
		"1 0 0; 0 1 0; 0 0 0", "1 0 1; 1 0 1; 0 1 0", "1 1 0; 1 -1 2; 0 0 0", "1 1 2; 1 -1 3; 0 0 0", "1 0 1 2; 0 1 1 3; 0 0 1 4; 0 0 0 0",
		"1 1 1 3; 1 -1 1 1; 1 1 -1 1; 1 -1 -1 -1",
		"1p100 1; 1 1p-100", "1p-10000 1; 1 1p10000",
		"11 24; 106 231", // independent, but by less than c is rounded
	} {
		fails(t, matrix(a), 8, api.ErrZero, a)
	}
	for n := 1; n <= api.MaxDim; n++ {
		for k := range n {
			for _, order := range orders(n) {
				none := ordered(butColumn(unit(n), k, slices.Repeat([]api.Num{{}}, n)), order)
				fails(t, none, 8, api.ErrZero, "a column of 0")
				fails(t, none, 256, api.ErrZero, "a column of 0")
				if k == 0 {
					continue
				}
				// The sum of the columns before it.
				sum := ordered(butColumn(unit(n), k, append(slices.Repeat([]api.Num{of(3, 0)}, k), slices.Repeat([]api.Num{{}}, n-k)...)), order)
				fails(t, sum, 8, api.ErrZero, "a column that becomes 0")
				fails(t, sum, 256, api.ErrZero, "a column that becomes 0")
			}
		}
	}
	// Dependent, but not once c is rounded.
	yields(t, matrix("1 257; 1 257"), 8, matrix("1p-1 1p-1; 1p-1 1p-1"))
	fails(t, matrix("1 257; 1 257"), 9, api.ErrZero, "dependent columns")
}
