package ortho

import (
	"testing"

	"fathomline/api"
)

// P9.1: ErrOver, and which failure comes first.

// failure is a matrix at which one operation is the first to fail, to 8 bits.
type failure struct {
	a    string
	what string // as calc names it; the digits are the column, that of u and the element
}

func failures() []failure {
	return []failure{
		// A product of u and v: 2^-65537, or 257 times 2^65535 that is rounded to
		// 2^65543.
		{"1 1p-65536; 1 0", "product uv100"}, {"1 257p65536; 0 1", "product uv100"}, {"1 0; 1 1p-65536", "product uv101"}, {"1 0 1p-65536; 0 1 0; 1 0 0", "product uv200"},
		{"1 0 0; 0 1 1p-65536; 0 1 0", "product uv211"}, {"1 0 0 0; 0 1 0 0; 0 0 1 0; 0 0 1 1p-65536", "product uv323"},
		// A sum: 2^65537.
		{"1 3p65536; 1 1p65536", "sum uv101"}, {"1 0 0; 0 1 3p65536; 0 1 1p65536", "sum uv212"}, {"1 0 -1p65536; 1 1 0; 1 0 -3p65536", "sum uv202"},
		// A product of u and u: 2^-80000.
		{"1 1; 1p-40000 0", "product uu101"}, {"1p-40000 1; 1 0", "product uu100"}, {"1 0 0; 0 1 1; 0 1p-40000 0", "product uu212"},
		// A quotient: 2^65537, or one third of 2^-65532.
		{"1 1p65536; 0 1", "quotient 10"}, {"3 1p-65534; 0 1", "quotient 10"}, {"1 0 0; 0 1 1p65536; 0 0 1", "quotient 21"}, {"1 0 1p65536; 0 1 0; 0 0 1", "quotient 20"},
		// A product of c and u: 3 times 2^-69999, or one that is rounded to 2^65537
		// or above.
		{"1 1p-40000; 3p-29999 0", "product cu101"}, {"3p-29999 0; 1 1p-40000", "product cu100"}, {"1 3p65536; -105 111p65536", "product cu101"}, {"14 -239p65534; -1 -17p65533", "product cu100"},
		{"1 0 0; 0 1 1p-40000; 0 3p-29999 0", "product cu212"},
		// A difference: an even number times 2^65536.
		{"1 -251p65534; 3 -259p65529", "difference 100"}, {"-2 3p65529; 1 5p65536", "difference 101"}, {"1 0 0; 0 -2 3p65529; 0 1 5p65536", "difference 212"},
		// The scaling: 2^-131073.
		{"1p65536 0; 1p-65536 1", "scaling 01"}, {"1p-65536 0; 1p65536 1", "scaling 00"}, {"1 0 0; 0 1p65536 0; 0 1p-65536 1", "scaling 12"},
		{"1 0 0 0; 0 1 0 0; 0 0 1p40000 0; 0 0 -1p-30000 1", "scaling 23"}, {"3 1p-65528; 0 1", "scaling 10"},
	}
}

// TestOver holds the failures to the reference too, so that each is that of the
// operation that it stands for.
func TestOver(t *testing.T) {
	for _, x := range failures() {
		a := matrix(x.a)
		c := newCalc(8)
		c.columns(a)
		if c.err != api.ErrOver || c.what != x.what {
			t.Errorf("the reference fails at %s in %q, %d, not in %q", x.a, c.what, c.err, x.what)
		}
		fails(t, a, 8, api.ErrOver, x.what)
	}
}

// TestNextToOver has what is not far from those failures, and does not fail.
func TestNextToOver(t *testing.T) {
	for _, x := range []struct{ a, want string }{
		{"1 1p-65535; 1 0", "1p-1 1p-1; 1p-1 -1p-1"}, {"1 255p65535; 0 1", "1p-1 0; 0 1p-1"}, {"1 257p65526; 0 1", "1p-1 1p-1; 0 1p-65527"},
		{"1 5p65535; 1 1p65535", "1p-1 1p-1; 1p-1 -1p-1"}, {"1 1; 1p-32767 0", "1p-1 0; 1p-32768 -1p-1"},
		{"1 1p65535; 0 1", "1p-1 0; 0 1p-1"}, {"1 1p-35000; 3p-29999 0", "1p-1 0; 3p-30000 -3p-2"},
		{"3 1p-65526; 0 1", "3p-2 1p-65535; 0 1p-1"}, {"3 1p-65527; 0 1", "3p-2 1p-65536; 0 1p-1"}, {"1p16000 0; 1p-16000 1", "1p-1 -1p-32000; 1p-32001 255p-8"},
		// The first column is scaled ahead of its products, the second one behind
		// the differences.
		{"1p60000 1p60000; 0 1", "1p-1 0; 0 1p-1"}, {"1p-60000 1p-60000; 0 1", "1p-1 0; 0 1p-1"}, {"1 1p65530; 0 1p-65530", "1p-1 0; 0 1p-1"},
	} {
		yields(t, matrix(x.a), 8, matrix(x.want))
	}
}

// TestFirstFailure has two reasons to fail, of which the first one counts.
func TestFirstFailure(t *testing.T) {
	for _, x := range []struct {
		a    string
		want api.Errno
	}{
		// A column that is 0 or becomes 0, and ErrOver in a column that comes
		// before or after it.
		{"0 1p65536; 0 1p-65536", api.ErrZero}, {"1p65536 0; 1p-65536 0", api.ErrOver},
		{"0 1 1p-65536; 0 1 0; 0 0 1", api.ErrZero}, {"1 0 1p-65536; 1 0 0; 0 0 1", api.ErrZero}, {"1 1 1p-65536; 1 1 0; 0 0 1", api.ErrZero},
		{"1 1p-65536 0; 1 0 0; 0 0 0", api.ErrOver}, {"1 1p-65536 1; 1 0 1; 0 0 0", api.ErrOver},
		{"1 0 0; 0 0 1p65536; 0 0 1p-65536", api.ErrZero}, {"1 0 0; 0 1p65536 0; 0 1p-65536 0", api.ErrOver},
		{"1 0 0 1p65536; 0 1 1 0; 0 0 0 0; 0 0 0 1", api.ErrZero}, {"1 0 1p65536 0; 0 1 0 1; 0 0 1 0; 0 0 0 0", api.ErrOver},
		// A column that is 0 has its dot products all the same, before it is found
		// to be 0; so has one that is 0 once the first column is subtracted.
		{"1 0; 1p-40000 0", api.ErrOver}, {"1 0 0; 0 1 0; 0 1p-40000 0", api.ErrOver}, {"1 0 3; 0 1 0; 0 1p-40000 0", api.ErrOver},
		// A product that would be a number if the second column were scaled first.
		{"1p-65536 1p-65536; 0 1p-65536", api.ErrOver},
	} {
		fails(t, matrix(x.a), 8, x.want, x.a)
	}
}
