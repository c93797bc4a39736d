package inv

import (
	"testing"

	"fathomline/api"
)

// P8.2

// TestSureExact has matrices for which E is 0, so that the result has points.
func TestSureExact(t *testing.T) {
	for _, x := range []struct{ a, want string }{
		{"2", "1p-1"}, // the chapter's example
		{"-1p-3", "-1p3"}, {"1p65536", "1p-65536"}, {"1p-65536", "1p65536"}, {"1 1; 0 1", "1 -1; 0 1"}, {"0 1; 1 0", "0 1; 1 0"}, {"2 6; -2 2", "1p-3 -3p-3; 1p-3 1p-3"},
		{"1 2 3; 0 1 4; 0 0 1", "1 -2 5; 0 1 -4; 0 0 1"}, {"4 0 0; 2 1 0; 1 4 1", "1p-2 0 0; -1p-1 1 0; 7p-2 -4 1"}, {"1 1p60000; 1 0", "0 1; 1p-60000 -1p-60000"},
		{"1 1 1 1; 1 -1 1 -1; 1 1 -1 -1; 1 -1 -1 1", "1p-2 1p-2 1p-2 1p-2; 1p-2 -1p-2 1p-2 -1p-2; 1p-2 1p-2 -1p-2 -1p-2; 1p-2 -1p-2 -1p-2 1p-2"},
	} {
		for _, prec := range inside() {
			encloses(t, matrix(x.a), prec, matrix(x.want), matrix(x.want))
		}
	}
	// The norm of r, 63 times 2^65536, is just a number.
	encloses(t, matrix("1p-65535 -125; 0 1"), 8, matrix("1p65535 125p65535; 0 1"), matrix("1p65535 125p65535; 0 1"))
}

// TestSureRounded has results to 8 bits whose radius is not 0.
func TestSureRounded(t *testing.T) {
	for _, x := range []struct{ a, lo, hi string }{
		{"3", "169p-9", "171p-9"}, {"-3", "-173p-9", "-169p-9"}, {"257", "127p-15", "1p-8"}, {"-257", "-65p-14", "-253p-16"},
		{"171", "95p-14", "3p-9"}, {"-171", "-97p-14", "-95p-14"}, {"7p-3", "145p-7", "147p-7"},
		{"1 257p-2; 0 1", "-64 -129; -65 -64", "66 1; 65 66"}, // e and d are 1p-1, so q is the norm of r
		{"1 2; 3 4", "-17p-3 27p-5; 171p-7 -165p-8", "-233p-7 73p-6; 209p-7 -89p-8"},
		{"0 3; 5 0", "-171p-17 101p-9; 169p-9 -171p-17", "171p-17 103p-9; 171p-9 171p-17"},
		{"1 257; 1 2", "-203p-12 249p-8; -155p-12 -47p-10", "139p-12 17p-4; 47p-10 155p-12"},
		{"-1 -3; -9 105", "-27p-5 -137p-11; -231p-11 -75p-11", "-3p-2 89p-12; -99p-12 53p-10"},
		{"1p-60000 1; 1 1", "-65p-6 253p-8; 253p-8 -33p-12", "-253p-8 65p-6; 65p-6 131p-14"},
		{"3 -1 -6; -1 -3 6; 0 -5 269", "243p-10 -173p-10 -187p-12; -161p-10 -93p-8 -205p-12; -233p-12 -249p-12 -105p-11", "179p-9 -241p-12 33p-9; -193p-12 -1p-2 245p-12; 109p-11 101p-11 241p-12"},
	} {
		encloses(t, matrix(x.a), 8, matrix(x.lo), matrix(x.hi))
	}
}

// TestNormOfE has matrices by the norm of E, to 8 bits: below 1 there is a
// result, and from 1 on none.
func TestNormOfE(t *testing.T) {
	for _, x := range []struct{ a, norm string }{
		{"1 3; 0 1", "0"}, {"3", "1p-8"}, {"-3", "1p-7"}, {"1 257p-30; 0 1", "1p-29"}, {"1 257p-60000; 0 1", "1p-59999"},
		{"1 257p-2; 0 1", "1p-1"}, {"1 -257p-2; 0 1", "1p-1"}, {"1 257p-2 257p-3 257p-4; 0 1 0 0; 0 0 1 0; 0 0 0 1", "7p-3"},
		{"1 257p-1; 0 1", "1"}, {"1 -257p-1; 0 1", "1"}, {"1 257p-2 257p-2; 0 1 0; 0 0 1", "1"}, {"1 257p-2 257p-3 257p-3; 0 1 0 0; 0 0 1 0; 0 0 0 1", "1"},
		{"0 448 -510; 0 -384 0; 16 -1424 0", "1"}, // 511p-9, but rounded up
		{"1 0; 0 1p-60000", "0"}, {"1 257; 0 1", "2"}, {"1 257p100; 0 1", "1p101"}, {"1 0 0; 0 1 257p-1; 0 0 1", "1"}, {"1 0 0; 0 1 257; 0 0 1", "2"},
		{"1 257p65500; 0 1", "1p65501"},
	} {
		a, norm := matrix(x.a), matrix(x.norm)[0][0]
		c := &calc{prec: 8}
		if e := c.norm(c.defect(c.approx(a), valuesOf(a)), ""); c.err != api.OK || e.cmp(valueOf(norm)) != 0 {
			t.Errorf("the norm of E of %s is not %s", x.a, x.norm)
		}
		if r, err := Approx(a, 8); err != api.OK || len(r) != len(a) {
			t.Errorf("Approx(%s, 8) = %s, %d", x.a, text(r), err)
		}
		if valueOf(norm).cmp(whole(1)) >= 0 {
			sureFails(t, a, 8, api.ErrZero, x.a)
		} else if m, err := Sure(a, 8); err != api.OK || len(m) != len(a) {
			t.Errorf("Sure(%s, 8) = %v, %d", x.a, m, err)
		}
	}
}
