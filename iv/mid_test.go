package iv

import (
	"testing"

	"fathomline/api"
)

// P5.3

// row is what Mid, Rad and Wide return for an interval.
type row struct {
	a              api.Iv
	prec           int
	mid, rad, wide outcome
}

type outcome struct {
	x   api.Num
	err api.Errno
}

func is(x api.Num) outcome { return outcome{x: x} }

func over() outcome { return outcome{err: api.ErrOver} }

func expectRows(t *testing.T, rows []row) {
	t.Helper()
	for _, x := range rows {
		for name, want := range map[string]outcome{"Mid": x.mid, "Rad": x.rad, "Wide": x.wide} {
			if got, err := measures()[name](x.a, x.prec); err != want.err || !equal(got, want.x) {
				t.Errorf("%s(%v, %d) = %v, %d, not %v, %d", name, x.a, x.prec, got, err, want.x, want.err)
			}
		}
	}
}

func TestMeasures(t *testing.T) {
	m := func(x int64) outcome { return is(odd(x, 0)) }
	expectRows(t, []row{
		{ints(0, 2), 8, m(1), m(1), m(2)},
		{ints(-1, 2), 8, is(of(1, -1)), is(of(3, -1)), m(3)},
		{ints(-2, 1), 8, is(of(-1, -1)), is(of(3, -1)), m(3)},
		{ints(-5, 5), 8, m(0), m(5), m(10)},
		{ints(5, 5), 8, m(5), m(0), m(0)},
		{ints(0, 0), 8, m(0), m(0), m(0)},
		// The half 128.5 is rounded down, and the width 257 up.
		{ints(0, 257), 8, m(128), m(129), m(258)},
		{ints(-257, 0), 8, m(-129), m(129), m(258)},
		{ints(0, 257), 9, is(of(257, -1)), is(of(257, -1)), m(257)},
		// The half 511.5 is rounded down, and the distance 513 from it up.
		{ints(0, 1023), 8, m(510), m(516), m(1024)},
		{ints(-1023, 0), 8, m(-512), m(512), m(1024)},
	})
}

// plus is the valid number x + y.
func plus(x, y api.Num) api.Num {
	sum, _ := valueOf(x).plus(valueOf(y)).number()
	return sum
}

// TestMidIsLo has halves that are less than Lo when they are rounded.
func TestMidIsLo(t *testing.T) {
	quarter := of(1, -2)
	for _, prec := range inside() {
		lo := wide(prec+1, 0) // one bit too many
		hi := plus(lo, quarter)
		expectRows(t, []row{
			{point(lo), prec, is(lo), is(api.Num{}), is(api.Num{})},
			{point(minus(lo)), prec, is(minus(lo)), is(api.Num{}), is(api.Num{})},
			{from(lo, hi), prec, is(lo), is(quarter), is(quarter)},
			{from(minus(hi), minus(lo)), prec, is(minus(hi)), is(quarter), is(quarter)},
			{from(of(1, int64(prec)), hi), prec, is(of(1, int64(prec))), is(of(5, -2)), is(of(5, -2))},
			// At Lo + 1 there is a number of so many bits.
			{from(lo, plus(lo, of(1, 1))), prec, is(plus(lo, of(1, 0))), is(of(1, 0)), is(of(1, 1))},
		})
	}
}

// TestMeasuresTop has ends whose sum, rounded half or width may be too great
// for a number. Mid is Lo even where the half that is less than Lo is none.
func TestMeasuresTop(t *testing.T) {
	var zero api.Num
	low, top, high := of(1, -maxExp), of(1, maxExp), of(511, maxExp)
	most := full(maxBits, maxExp)
	expectRows(t, []row{
		{point(top), 8, is(top), is(zero), is(zero)},
		{point(minus(top)), 256, is(minus(top)), is(zero), is(zero)},
		{point(most), 8, is(most), is(zero), is(zero)},
		{point(minus(most)), 8, is(minus(most)), is(zero), is(zero)},
		{point(of(257, maxExp)), 8, is(of(257, maxExp)), is(zero), is(zero)},
		{point(of(-257, maxExp)), 8, is(of(-257, maxExp)), is(zero), is(zero)},
		{from(of(255, maxExp), of(257, maxExp)), 8, over(), over(), over()},
		{from(of(257, maxExp), of(259, maxExp)), 8, over(), over(), over()},
		{from(of(257, maxExp), of(515, maxExp-1)), 8, is(of(257, maxExp)), is(of(1, maxExp-1)), is(of(1, maxExp-1))},
		{from(top, of(3, maxExp)), 8, over(), over(), over()},
		{from(minus(top), top), 8, is(zero), is(top), over()},
		{from(minus(most), most), 8, is(zero), over(), over()},
		{from(zero, of(511, maxExp-1)), 8, is(of(255, maxExp-1)), over(), over()},
		{from(zero, of(511, maxExp-1)), 9, is(of(511, maxExp-2)), is(of(511, maxExp-2)), is(of(511, maxExp-1))},
		// One end is as far below the other as can be.
		{from(zero, high), 8, is(of(255, maxExp)), over(), over()},
		{from(low, high), 8, is(of(255, maxExp)), over(), over()},
		{from(minus(low), high), 8, is(of(255, maxExp)), over(), over()},
		{from(zero, top), 8, is(of(1, maxExp-1)), is(of(1, maxExp-1)), is(top)},
		{from(low, top), 8, is(of(1, maxExp-1)), is(of(1, maxExp-1)), is(top)},
		{from(minus(low), top), 8, is(below(8, maxExp-1)), is(above(8, maxExp-1)), is(above(8, maxExp))},
		{from(minus(top), low), 8, is(of(-1, maxExp-1)), is(above(8, maxExp-1)), is(above(8, maxExp))},
		{from(minus(top), minus(low)), 8, is(minus(above(8, maxExp-1))), is(above(8, maxExp-1)), is(top)},
	})
}

// TestMeasuresLow has halves below the lowest place of numbers.
func TestMeasuresLow(t *testing.T) {
	m := func(x int64) outcome { return is(odd(x, -maxExp)) }
	units := func(lo, hi int64, mid, rad, wide outcome) row {
		return row{from(odd(lo, -maxExp), odd(hi, -maxExp)), 8, mid, rad, wide}
	}
	expectRows(t, []row{
		units(0, 1, over(), over(), m(1)), units(-1, 0, over(), over(), m(1)), units(1, 2, over(), over(), m(1)),
		units(-2, 1, over(), over(), m(3)), units(-4, 259, over(), over(), m(264)),
		units(1, 3, m(2), m(1), m(2)), units(-1, 3, m(1), m(2), m(4)), units(-3, 1, m(-1), m(2), m(4)), units(-1, 1, m(0), m(1), m(2)), units(1, 1, m(1), m(0), m(0)),
		// The half is rounded, and so is a number.
		units(257, 258, m(257), m(1), m(1)), units(-258, -257, m(-258), m(1), m(1)), units(0, 257, m(128), m(129), m(258)), units(256, 259, m(256), m(3), m(3)),
	})
}

// TestMeasuresFar has ends that lie about half of all exponents apart.
func TestMeasuresFar(t *testing.T) {
	var numbers []api.Num
	for _, exp := range []int64{-maxExp, 1 - maxExp, -far - maxBits, -far - 1, -far, 1 - far, 0, far - maxBits, far - maxBits + 1, far - 1, far, far + 1, maxExp} {
		for _, x := range []api.Num{of(1, exp), full(9, exp), full(maxBits, exp), wide(maxBits, exp)} {
			numbers = append(numbers, x, minus(x))
		}
	}
	for _, x := range numbers {
		for _, y := range numbers {
			if valueOf(x).cmp(valueOf(y)) <= 0 {
				checkMeasures(t, from(x, y), 8)
			}
		}
	}
}

func TestMeasuresInvalid(t *testing.T) {
	for name, call := range measures() {
		for rule, a := range invalidIvs() {
			for _, prec := range append(inside(), outside()...) {
				if got, err := call(a, prec); err != api.ErrForm || !isZero(got) {
					t.Errorf("%s to %d bits: %s: %v, %d", name, prec, rule, got, err)
				}
			}
		}
		for _, a := range validIvs() {
			for _, prec := range outside() {
				if got, err := call(a, prec); err != api.ErrForm || !isZero(got) {
					t.Errorf("%s(%v, %d) = %v, %d", name, a, prec, got, err)
				}
			}
		}
	}
}
