package inv

import (
	"testing"

	"fathomline/api"
)

// P8.1 and P8.2: ErrOver, and which failure comes first.

// failure is a matrix at which one operation is the first to fail, to 8 bits.
type failure struct {
	a    string
	what string // as calc names it; the indices are k, the row, the matrix and the column
}

func approxFailures() []failure {
	return []failure{
		// A quotient only: 2^-80000, 2^80000, or one third of 2^-65536.
		{"1p40000 1p-40000; 0 1", "quotient 00a1"}, {"1p-40000 1p40000; 0 1", "quotient 00a1"}, {"3p65536", "quotient 00r0"}, {"-3p65536", "quotient 00r0"},
		{"1 0 1; 0 1p-40000 1p40000; 0 0 1", "quotient 11a2"}, {"1 0 0; 0 1 0; 0 0 3p65536", "quotient 22r2"},
		// A product only: 2^-80000.
		{"1 1p-40000; 1p-40000 1", "product 01a1"}, {"1p40000 0; 1p-40000 1", "product 01r0"}, {"1 1p-40000; 0 1p40000", "product 10r1"},
		{"1 0 0; 0 1 1p-40000; 0 1p-40000 1", "product 12a2"}, {"1 0 0; 0 1p40000 0; 0 1p-40000 1", "product 12r1"},
		// A difference only: 2^65537.
		{"1 1p65536; 1 -1p65536", "difference 01a1"}, {"1 -1p65536; 1 1p65536", "difference 01a1"}, {"1p-65536 1; 1p-65536 2", "difference 10r0"},
		{"1 0 0; 0 1 1p65536; 0 1 -1p65536", "difference 12a2"}, {"1 0 0; 0 1p-65536 1; 0 1p-65536 2", "difference 21r1"},
		// An element of a column that was cleared: what is left there by rounding
		// counts.
		{"593 -3p65535; 601 0", "quotient 11a0"}, {"-405p-65525 -27; 8 -3p-2", "product 10a0"},
	}
}

func sureFailures() []failure {
	return []failure{
		{"1p-20000 1p-20000; 1p-20000 1p46000", "product of E"},
		{"0 0 1; 0 1 -3; 1 1p65526 -197p65536", "sum of E"},
		{"1p-3 227p65532 167p65532; 0 41 0; 0 0 213", "norm of E"},
		{"1p-65536 -1; 0 1", "norm of r"},
		{"3p65528", "product with e"},
		{"3p65520", "quotient by d"},
		{"1p-65529 254 0 0; 0 1 0 0; 0 0 3 771p-10; 0 0 0 1", "lower end"},
		{"1p-65529 -254 0 0; 0 1 0 0; 0 0 3 771p-10; 0 0 0 1", "upper end"},
	}
}

// TestApproxOver holds the failures to the reference too, so that each is that
// of the operation that it stands for.
func TestApproxOver(t *testing.T) {
	for _, x := range approxFailures() {
		a := matrix(x.a)
		c := &calc{prec: 8}
		c.approx(a)
		if c.err != api.ErrOver || c.what != x.what {
			t.Errorf("the reference fails at %s in %q, %d, not in %q", x.a, c.what, c.err, x.what)
		}
		bothFail(t, a, 8, api.ErrOver, x.what)
	}
}

func TestSureOver(t *testing.T) {
	for _, x := range sureFailures() {
		a := matrix(x.a)
		c := &calc{prec: 8}
		c.sure(a)
		if c.err != api.ErrOver || c.what != x.what {
			t.Errorf("the reference fails at %s in %q, %d, not in %q", x.a, c.what, c.err, x.what)
		}
		sureFails(t, a, 8, api.ErrOver, x.what)
		if r, err := Approx(a, 8); err != api.OK || len(r) != len(a) {
			t.Errorf("Approx(%s, 8) = %s, %d", x.a, text(r), err)
		}
	}
}

// TestNextToOver has what is not far from those failures, and does not fail.
func TestNextToOver(t *testing.T) {
	for _, a := range []string{
		"1p30000 1p-30000; 0 1", "3p65528", "1 1p-30000; 1p-30000 1", "1p30000 0; 1p-30000 1", "1 1p65535; 1 -1p65535", "1p-65536 1; 0 1",
		"1p-65535 1; 1p-65535 2", "593 -3p65500; 601 0",
	} {
		if r, err := Approx(matrix(a), 8); err != api.OK || len(r) == 0 {
			t.Errorf("Approx(%s, 8) = %s, %d", a, text(r), err)
		}
	}
	for _, a := range []string{
		"1p-20000 1p-20000; 1p-20000 1p45000", "1p-65535 -1; 0 1p1", "3p65519",
		"1p-65529 252 0 0; 0 1 0 0; 0 0 3 771p-10; 0 0 0 1", "1p-65529 -252 0 0; 0 1 0 0; 0 0 3 771p-10; 0 0 0 1",
	} {
		if m, err := Sure(matrix(a), 8); err != api.OK || len(m) == 0 {
			t.Errorf("Sure(%s, 8) = %v, %d", a, m, err)
		}
	}
}

// TestFirstFailure has two reasons to fail, of which the first one counts.
func TestFirstFailure(t *testing.T) {
	for _, x := range []struct {
		a    string
		want api.Errno
	}{
		// A pivot element 0 of a column, and ErrOver in a column that comes before
		// or after it.
		{"3p65536 0; 0 0", api.ErrOver}, {"0 0; 0 3p65536", api.ErrZero},
		{"1p40000 1p-40000 0; 0 0 0; 0 0 1", api.ErrOver}, {"1 1p-40000 0; 1p-40000 1 0; 0 0 0", api.ErrOver},
		{"0 1p40000 1p-40000; 0 1p40000 0; 0 0 1", api.ErrZero}, {"1 0 0; 0 0 1; 0 0 3p65536", api.ErrZero}, {"1 0 0; 0 3p65536 0; 0 0 0", api.ErrOver},
		{"1 0 0 0; 0 1 0 0; 0 0 0 1; 0 0 0 3p65536", api.ErrZero}, {"1 0 0 0; 0 1 0 0; 0 0 3p65536 0; 0 0 0 0", api.ErrOver},
		{"1 1p65536 0; 1 -1p65536 0; 0 0 0", api.ErrOver}, {"1 1p65536 1; 1 1p65536 1; 1 -1p65536 1", api.ErrOver},
		{"1p65536 1p-65536; 0 0", api.ErrOver}, {"0 1p65536; 0 1p-65536", api.ErrZero},
	} {
		bothFail(t, matrix(x.a), 8, x.want, x.a)
	}
	far := matrix("1 257; 0 1") // the norm of E is 2
	for _, x := range []struct {
		a    [][]api.Num
		want api.Errno
		what string
	}{
		{far, api.ErrZero, "far"},
		{blocks(far, matrix("1p-65536 -1; 0 1")), api.ErrZero, "the norm of r comes behind e"},
		{blocks(matrix("1 257p-1; 0 1"), matrix("1p-65536 -1; 0 1")), api.ErrZero, "the norm of r comes behind e, even if e is 1"},
		{blocks(far, matrix("3p65528")), api.ErrZero, "the product with e comes behind e"},
		{blocks(far, matrix("1p-20000 1p-20000; 1p-20000 1p46000")), api.ErrOver, "a product comes ahead of e"},
		{blocks(matrix("257"), matrix("0 0 1; 0 1 -3; 1 1p65526 -197p65536")), api.ErrOver, "a sum comes ahead of e"},
		{matrix("1p-3 227p65532 167p65532; 0 41 0; 0 0 213"), api.ErrOver, "the norm of E comes ahead of e"},
	} {
		sureFails(t, x.a, 8, x.want, x.what)
	}
}
