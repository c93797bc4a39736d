package inv

import (
	"testing"

	"fathomline/api"
)

// P8.1

// TestApproxExact has matrices at which nothing is rounded.
func TestApproxExact(t *testing.T) {
	for _, x := range []struct{ a, want string }{
		{"1", "1"}, {"2", "1p-1"}, {"-1p3", "-1p-3"}, {"1p65536", "1p-65536"}, {"-1p-65536", "-1p65536"},
		{"1 0; 0 1", "1 0; 0 1"}, {"1 0; 0 -8", "1 0; 0 -1p-3"}, {"1 1; 0 1", "1 -1; 0 1"}, {"1 0; 1 1", "1 0; -1 1"},
		{"2 6; -2 2", "1p-3 -3p-3; 1p-3 1p-3"}, {"1 1; 1 -1", "1p-1 1p-1; 1p-1 -1p-1"}, {"0 1; 1 1", "-1 1; 1 0"}, {"4 1; 1 0", "0 1; 1 -4"},
		{"1 2 3; 0 1 4; 0 0 1", "1 -2 5; 0 1 -4; 0 0 1"}, {"4 0 0; 2 1 0; 1 4 1", "1p-2 0 0; -1p-1 1 0; 7p-2 -4 1"},
		{"0 0 2; 1 0 0; 0 4 0", "0 1 0; 0 0 1p-2; 1p-1 0 0"}, {"0 0 2; -1 0 0; 0 4 0", "0 -1 0; 0 0 1p-2; 1p-1 0 0"},
		{"1 1 1 1; 1 -1 1 -1; 1 1 -1 -1; 1 -1 -1 1", "1p-2 1p-2 1p-2 1p-2; 1p-2 -1p-2 1p-2 -1p-2; 1p-2 1p-2 -1p-2 -1p-2; 1p-2 -1p-2 -1p-2 1p-2"},
		{"1 2 0 0; 0 1 2 0; 0 0 1 2; 0 0 0 1", "1 -2 4 -8; 0 1 -2 4; 0 0 1 -2; 0 0 0 1"},
	} {
		for _, prec := range []int{8, 64, 256} {
			approximates(t, matrix(x.a), prec, matrix(x.want))
		}
	}
}

// TestApproxRounded: each operation rounds down, to 8 bits here. 1/257 is
// rounded to 255p-16, and -1/257 to -1p-8.
func TestApproxRounded(t *testing.T) {
	for _, x := range []struct{ a, want string }{
		{"3", "85p-8"}, {"-3", "-171p-9"}, {"257", "255p-16"}, {"-257", "-1p-8"}, {"7p-3", "73p-6"}, {"171", "191p-15"}, {"-171", "-3p-9"},
		{"1 2; 3 4", "-63p-5 127p-7; 95p-6 -127p-8"},
		{"1 257; 3 1", "-85p-16 85p-8; 1p-8 -85p-16"},
		{"2 257; -3 1", "171p-17 -171p-9; 1p-8 171p-16"},
		{"1 257 259; 0 1 261; 0 0 257", "1 -1p8 65p2; 0 1 -129p-7; 0 0 255p-16"},
	} {
		approximates(t, matrix(x.a), 8, matrix(x.want))
	}
	approximates(t, matrix("3"), 9, matrix("341p-10"))
	approximates(t, matrix("-3"), 9, matrix("-171p-9"))
}

// TestApproxOrder has matrices whose result is another one if a product and
// the difference are rounded as one, if rows are multiplied by 1/d, if rows are
// divided last, if the rows above are cleared last, if columns are cleared in
// another order, or if another row is the pivot row.
func TestApproxOrder(t *testing.T) {
	for _, x := range []struct{ a, want string }{
		{"-1 -3; -9 105", "-51p-6 -23p-10; -35p-9 31p-12"},
		{"3 -1 -6; -1 -3 6; 0 -5 269", "75p-8 -233p-11 19p-11; -209p-11 -157p-9 5p-10; -31p-14 -187p-15 31p-13"},
		{"0 1 -2 267; 0 263 0 7; -3 0 257 0; -3 0 271 8", "-101p-9 99p-17 -223p-5 105p-4; -209p-21 249p-16 131p-23 -1p-16; -75p-15 37p-22 -79p-10 39p-9; 123p-15 -15p-20 -153p-18 151p-18"},
	} {
		approximates(t, matrix(x.a), 8, matrix(x.want))
	}
}

// TestPivot: the greatest absolute value counts, in the rows from k on only,
// and of equal ones the first one, at each k.
func TestPivot(t *testing.T) {
	for _, x := range []struct{ a, want string }{
		// Equal ones, with the same sign or another.
		{"1 257; 1 2", "-1p-7 65p-6; 129p-15 -65p-14"}, {"1 2; 1 257", "129p-7 -1p-7; -129p-15 1p-8"},
		{"-1 257; 1 2", "-1p-7 127p-7; 63p-14 63p-14"}, {"1 257; -1 2", "1p-7 -127p-7; 127p-15 127p-15"}, {"1 2; -1 257", "127p-7 -127p-14; 127p-15 127p-15"},
		{"3 1 2; 0 1 257; 0 1 2", "85p-8 1p-9 -171p-9; 0 -1p-7 65p-6; 0 129p-15 -65p-14"},
		{"1 0 257; 0 1 2; 0 1 257", "1 129p-7 -1; 0 129p-7 -1p-7; 0 -129p-15 1p-8"},
		{"3 1 2; 0 -1 257; 0 1 2", "85p-8 0 -85p-8; 0 -1p-7 127p-7; 0 63p-14 63p-14"},
		{"0 1 257; 1 1 2; 1 2 3", "-1p-7 255p-7 -255p-8; 0 -1 129p-7; 1p-8 1p-8 -129p-15"},
		// The greatest one is in a later row, or below 0, or in a row above k.
		{"2 1 257; 3 1 2; -3 2 3", "-233p-19 227p-10 -227p-11; -107p-14 43p-7 171p-9; 129p-15 -201p-16 -231p-19"},
		{"1 0 257; 0 2 1; 0 -5 1", "1 -183 -73; 0 147p-10 -147p-10; 0 183p-8 73p-8"},
	} {
		approximates(t, matrix(x.a), 8, matrix(x.want))
	}
}

// TestNotSubtracted: where m is 0, the other elements of the row stay as long
// as they are. (Less 0, 257 would be rounded to 256, and -257 to -258.)
func TestNotSubtracted(t *testing.T) {
	for _, x := range []struct{ a, want string }{
		{"1 3; 0 257", "1 -191p-14; 0 255p-16"}, {"1 3; 0 -257", "1 3p-8; 0 -1p-8"}, {"0 257; 1 1", "-255p-16 1; 255p-16 0"},
		{"1 0 0; 0 257 0; 3 0 1", "129p-7 0 0; 0 255p-16 0; -193p-6 0 1"},
		{"1 0; 1 257", "1 0; -1p-8 1p-8"}, {"1 0; 1 -257", "1 0; 127p-15 -255p-16"}, // here m is 1, and a product is 0
	} {
		approximates(t, matrix(x.a), 8, matrix(x.want))
	}
	for n := 1; n <= api.MaxDim; n++ {
		for i := range n {
			one := unit(n)
			approximates(t, but(one, i, i, of(257, 0)), 8, but(one, i, i, of(255, -16)))
			approximates(t, but(one, i, i, of(-257, 0)), 8, but(one, i, i, of(-1, -8)))
		}
	}
}

// TestPermutations has the inverses of all matrices with one element other than
// 0 in each row and column: they are exact where these are powers of 2.
func TestPermutations(t *testing.T) {
	for n := 1; n <= api.MaxDim; n++ {
		for code, order := range orders(n) {
			plain := ordered(unit(n), order)
			scaled, inverse := plain, turned(plain)
			for i, j := range order {
				x := of(int64(1-2*(code>>i&1)), int64(7*i-5*j))
				scaled, inverse = but(scaled, i, j, x), but(inverse, j, i, of(int64(1-2*(code>>i&1)), -x.Exp))
			}
			for _, prec := range inside() {
				approximates(t, plain, prec, turned(plain))
				encloses(t, plain, prec, turned(plain), turned(plain))
				approximates(t, scaled, prec, inverse)
				encloses(t, scaled, prec, inverse, inverse)
			}
			thirds := mapped(plain, func(x api.Num) api.Num { return odd(3*int64(len(x.W)), 0) })
			approximates(t, thirds, 8, mapped(turned(plain), func(x api.Num) api.Num { return odd(85*int64(len(x.W)), -8) }))
		}
	}
}

// TestDependent has rows that depend on each other, so that a pivot element is
// 0 at the first, at a middle or at the last column.
func TestDependent(t *testing.T) {
	for _, a := range []string{
		"0", "0 0; 0 0", "0 1; 0 1", "0 5; 0 0", "0 1 2; 0 3 4; 0 5 6", "0 0 0; 0 1 0; 0 0 1", "0 1 0 0; 0 0 1 0; 0 0 0 1; 0 1 1 1",
		"1 0; 0 0", "0 0; 1 0", "1 2; 2 4", "2 4; 1 2", "1 1; 1 1", "1 -1; -1 1", "1p30000 1p-30000; 0 0", "3 6; 1 2",
		"1 0 0; 0 0 1; 0 0 2", "1 2 3; 2 4 6; 0 0 1", "0 0 1; 1 2 3; 2 4 7", "1 0 0 0; 0 0 1 0; 0 0 0 1; 0 0 1 1", "1 0 0 0; 0 1 0 0; 0 0 0 1; 0 0 0 2",
		"1 0 0; 0 1 0; 0 0 0", "1 0 1; 0 1 1; 1 1 2", "1 2 3; 4 5 6; 5 7 9", "1 2 3; 1 2 3; 1 2 3",
		"1 0 0 0; 0 1 0 0; 0 0 1 0; 0 0 0 0", "1 1 1 1; 1 1 1 2; 1 1 2 2; 2 2 3 4", "1 0 0 1; 0 1 0 1; 0 0 1 1; 1 1 1 3", "1 1 1 1; 1 1 1 1; 1 1 1 1; 1 1 1 1",
		"257 256; 256 255", // dependent once 256/257 is rounded
	} {
		bothFail(t, matrix(a), 8, api.ErrZero, a)
	}
	// At each column, with rows that are independent in the others.
	for n := 1; n <= api.MaxDim; n++ {
		for k := range n {
			for _, order := range orders(n) {
				a := ordered(but(unit(n), k, k, api.Num{}), order)
				for _, prec := range inside() {
					bothFail(t, a, prec, api.ErrZero, "a column of 0")
				}
			}
		}
	}
}

// TestApproxSizes has elements of very different sizes.
func TestApproxSizes(t *testing.T) {
	for _, x := range []struct{ a, want string }{
		{"1p-60000 1; 1 1", "-1 1; 1 -129p-60007"}, {"1 1p60000; 1 1", "0 1; 1p-60000 -1p-60000"}, {"1 1p60000; 1 0", "0 1; 1p-60000 -1p-60000"},
		{"1p65536 0; 0 1p-65536", "1p-65536 0; 0 1p65536"}, {"0 1p65536; 1p-65536 0", "0 1p65536; 1p-65536 0"},
		{"1 1p-65536; 0 1", "1 -1p-65536; 0 1"}, {"1 0; 1p-65536 1", "1 0; -1p-65536 1"}, {"1 1p65536; 0 1", "1 -1p65536; 0 1"},
		{"1p-65536 1; 0 1", "1p65536 -1p65536; 0 1"}, {"1 0; 0 1p30000", "1 0; 0 1p-30000"},
	} {
		approximates(t, matrix(x.a), 8, matrix(x.want))
	}
	long := diagonal(full(maxBits, -maxExp), wide(maxBits, -maxExp), minus(wide(maxBits, maxExp-2*maxBits)), full(maxBits, 0))
	approximates(t, long, 8, diagonal(of(1, maxExp-maxBits), of(255, maxExp-maxBits-7), of(-1, maxBits+1-maxExp), of(1, -maxBits)))
}
