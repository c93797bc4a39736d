package box

import (
	"testing"

	"fathomline/api"
	"fathomline/num"
	"fathomline/round"
)

// P6.3

// blown is what Blow makes of an interval, step by step as the chapter says.
func blown(a api.Iv, prec int) (api.Iv, api.Errno) {
	width, err1 := round.Sub(a.Hi, a.Lo, prec, true)
	w, err2 := num.Scale(width, -2)
	lo, err3 := round.Sub(a.Lo, w, prec, false)
	hi, err4 := round.Add(a.Hi, w, prec, true)
	if err1 != api.OK || err2 != api.OK || err3 != api.OK || err4 != api.OK {
		return api.Iv{}, api.ErrOver
	}
	return from(lo, hi), api.OK
}

func TestBlow(t *testing.T) {
	for _, x := range []struct {
		a, want api.Iv
		prec    int
	}{
		{ints(0, 8), ints(-2, 10), 8},
		{ints(-4, 0), ints(-5, 1), 8},
		{ints(5, 5), ints(5, 5), 8},
		{ints(0, 0), ints(0, 0), 8},
		{ints(0, 1), from(of(-1, -2), of(5, -2)), 8},
		{ints(1, 257), ints(-63, 322), 8}, // 321 is rounded up
		{ints(1, 257), ints(-63, 321), 9},
		{ints(-257, -1), ints(-322, 63), 8},
		// The width 257 is rounded up to 258 before a quarter of it is taken.
		{ints(0, 257), from(of(-129, -1), of(161, 1)), 8},
		{ints(0, 257), from(of(-257, -2), of(643, -1)), 10},
		{ints(0, 257), from(of(-257, -2), of(1285, -2)), 11},
		// The ends of a point are rounded too.
		{ints(257, 257), ints(256, 258), 8},
		{ints(-257, -257), ints(-258, -256), 8},
		{ints(257, 257), ints(257, 257), 256},
		{point(of(1, -maxExp)), point(of(1, -maxExp)), 8},
		{point(of(-1, maxExp)), point(of(-1, maxExp)), 256},
		{from(api.Num{}, of(1, 2-maxExp)), from(of(-1, -maxExp), of(5, -maxExp)), 8},
	} {
		for n := 1; n <= api.MaxDim; n++ {
			for i := range n {
				b, want := but(allOf(n, ints(0, 4)), i, x.a), but(allOf(n, ints(-1, 5)), i, x.want)
				if got, err := Blow(b, x.prec); err != api.OK || !equalBox(got, want) {
					t.Errorf("Blow(%v, %d) = %v, %d, not %v", b, x.prec, got, err, want)
				}
			}
		}
	}
}

// TestBlowOver: a width, a quarter of one or an end has no valid number.
func TestBlowOver(t *testing.T) {
	low, top, high := of(1, -maxExp), of(1, maxExp), of(255, maxExp)
	for _, x := range []struct {
		what string
		a    api.Iv
		prec int
	}{
		{"width", from(minus(top), top), 8},
		{"width", from(of(-1, 0), full(maxBits, maxExp)), 256},
		{"quarter", from(api.Num{}, low), 8},
		{"quarter", from(minus(low), low), 256},
		{"quarter", from(of(5, -maxExp), of(1, 3-maxExp)), 8},
		{"quarter", from(api.Num{}, of(1, 1-maxExp)), 8},
		{"upper end", from(api.Num{}, high), 8},
		{"upper end", from(of(127, maxExp), high), 8},
		{"lower end", from(minus(high), api.Num{}), 8},
		{"lower end", from(minus(high), of(-127, maxExp)), 8},
		{"end of a point", point(of(511, maxExp)), 8},
		{"end of a point", point(of(-511, maxExp)), 8},
		{"both ends of a point", point(of(257, maxExp)), 8},
	} {
		b := boxOf(ints(0, 1), x.a, ints(3, 4))
		if got, err := Blow(b, x.prec); err != api.ErrOver || len(got) != 0 {
			t.Errorf("%s: Blow(%v, %d) = %v, %d", x.what, b, x.prec, got, err)
		}
	}
}

func TestHalve(t *testing.T) {
	x, y := ints(0, 1), ints(7, 9)
	for _, r := range []struct {
		b, low, high []api.Iv
		prec         int
	}{
		{boxOf(ints(0, 1), ints(0, 4)), boxOf(ints(0, 1), ints(0, 2)), boxOf(ints(0, 1), ints(2, 4)), 8},
		{boxOf(ints(0, 4)), boxOf(ints(0, 2)), boxOf(ints(2, 4)), 8},
		{boxOf(x, y, ints(-9, -1), y), boxOf(x, y, ints(-9, -5), y), boxOf(x, y, ints(-5, -1), y), 8},
		{boxOf(x, y, x, ints(-2, 1)), boxOf(x, y, x, from(of(-1, 1), of(-1, -1))), boxOf(x, y, x, from(of(-1, -1), of(1, 0))), 8},
		// The first one of the widest is split.
		{boxOf(ints(0, 4), ints(1, 5)), boxOf(ints(0, 2), ints(1, 5)), boxOf(ints(2, 4), ints(1, 5)), 8},
		{boxOf(x, ints(1, 5), ints(0, 4), ints(-4, 0)), boxOf(x, ints(1, 3), ints(0, 4), ints(-4, 0)), boxOf(x, ints(3, 5), ints(0, 4), ints(-4, 0)), 8},
		{allOf(4, ints(0, 2)), but(allOf(4, ints(0, 2)), 0, ints(0, 1)), but(allOf(4, ints(0, 2)), 0, ints(1, 2)), 8},
		// Rounded to 8 bits, the widths 257 and 258 are equal.
		{boxOf(ints(0, 257), ints(0, 258)), boxOf(ints(0, 128), ints(0, 258)), boxOf(ints(128, 257), ints(0, 258)), 8},
		{boxOf(ints(0, 257), ints(0, 258)), boxOf(ints(0, 257), ints(0, 129)), boxOf(ints(0, 257), ints(129, 258)), 9},
		{boxOf(ints(0, 256), ints(0, 257)), boxOf(ints(0, 256), ints(0, 128)), boxOf(ints(0, 256), ints(128, 257)), 8},
		{boxOf(ints(0, 256), ints(0, 257)), boxOf(ints(0, 256), from(api.Num{}, of(257, -1))), boxOf(ints(0, 256), from(of(257, -1), of(257, 0))), 9},
		// The other intervals are not rounded.
		{boxOf(ints(257, 259), ints(0, 4)), boxOf(ints(257, 259), ints(0, 2)), boxOf(ints(257, 259), ints(2, 4)), 8},
		// The middle is Lo, where no number of so many bits is in the interval.
		{boxOf(ints(0, 0), from(of(257, 0), of(515, -1))), boxOf(ints(0, 0), ints(257, 257)), boxOf(ints(0, 0), from(of(257, 0), of(515, -1))), 8},
	} {
		low, high, err := Halve(r.b, r.prec)
		if err != api.OK || !equalBox(low, r.low) || !equalBox(high, r.high) {
			t.Errorf("Halve(%v, %d) = %v, %v, %d", r.b, r.prec, low, high, err)
		}
	}
}

// TestHalvePoints: both halves of a point are the point, whatever its bits.
func TestHalvePoints(t *testing.T) {
	for _, x := range []api.Num{{}, of(3, 0), of(257, 0), of(-257, 0), of(1, -maxExp), of(-1, maxExp), full(maxBits, maxExp), minus(wide(maxBits, -maxExp))} {
		for n := 1; n <= api.MaxDim; n++ {
			b := but(allOf(n, point(x)), n-1, ints(-5, -5))
			low, high, err := Halve(b, 8)
			if err != api.OK || !equalBox(low, b) || !equalBox(high, b) {
				t.Errorf("Halve(%v, 8) = %v, %v, %d", b, low, high, err)
			}
		}
	}
}

// TestHalveOver: every width counts, and the middle of the widest alone.
func TestHalveOver(t *testing.T) {
	low, top := of(1, -maxExp), of(1, maxExp)
	tiny, great := from(api.Num{}, low), from(minus(top), top)
	for _, b := range [][]api.Iv{
		{tiny}, {tiny, tiny}, {ints(5, 5), tiny, ints(1, 1)}, {great}, {ints(0, 1), great}, {great, ints(0, 1)},
		{from(of(255, maxExp), of(257, maxExp))},
		{tiny, from(low, of(3, -maxExp)), from(of(1, 1-maxExp), of(5, -maxExp))}, // 3 is the greatest width, from 2 to 5
	} {
		if x, y, err := Halve(b, 8); err != api.ErrOver || len(x) != 0 || len(y) != 0 {
			t.Errorf("Halve(%v, 8) = %v, %v, %d", b, x, y, err)
		}
	}
	for _, r := range []struct{ b, low, high []api.Iv }{
		{boxOf(tiny, ints(0, 4)), boxOf(tiny, ints(0, 2)), boxOf(tiny, ints(2, 4))},
		{boxOf(ints(0, 4), tiny), boxOf(ints(0, 2), tiny), boxOf(ints(2, 4), tiny)},
		{boxOf(from(api.Num{}, top)), boxOf(from(api.Num{}, of(1, maxExp-1))), boxOf(from(of(1, maxExp-1), top))},
	} {
		if x, y, err := Halve(r.b, 8); err != api.OK || !equalBox(x, r.low) || !equalBox(y, r.high) {
			t.Errorf("Halve(%v, 8) = %v, %v, %d", r.b, x, y, err)
		}
	}
}

// P6.4

// checkHalves: the halves differ at one index, where they meet in one number,
// and have the ends of the box.
func checkHalves(t *testing.T, b, low, high []api.Iv, prec int) {
	t.Helper()
	if len(low) != len(b) || len(high) != len(b) {
		t.Fatalf("the halves of %v to %d bits are %v and %v", b, prec, low, high)
	}
	split := 0
	for i, x := range b {
		if equalIv(low[i], x) && equalIv(high[i], x) {
			continue
		}
		split++
		if !equal(low[i].Lo, x.Lo) || !equal(low[i].Hi, high[i].Lo) || !equal(high[i].Hi, x.Hi) {
			t.Fatalf("the halves of %v to %d bits are %v and %v", b, prec, low, high)
		}
	}
	if split > 1 || !In(low, b) || !In(high, b) {
		t.Fatalf("the halves of %v to %d bits are %v and %v", b, prec, low, high)
	}
	if hull, err := Hull(low, high); err != api.OK || !equalBox(hull, b) {
		t.Fatalf("the halves of %v to %d bits are %v and %v", b, prec, low, high)
	}
}

// between is a number in a: an end, or one that cuts a into parts.
func (s *source) between(a api.Iv) api.Num {
	width, err1 := num.Sub(a.Hi, a.Lo)
	part, _ := num.Scale(num.Int(int64(s.below(9))), -3)
	x, err2 := num.Mul(width, part)
	x, err3 := num.Add(a.Lo, x)
	if err1 != api.OK || err2 != api.OK || err3 != api.OK {
		return a.Hi
	}
	return x
}

// TestHalvesTogether: each point of the box is in one of its halves.
func TestHalvesTogether(t *testing.T) {
	s := source(2)
	seen := 0
	for range 3000 {
		b, prec := s.box(1+s.below(api.MaxDim)), s.prec()
		low, high, err := Halve(b, prec)
		if err != api.OK {
			continue
		}
		seen++
		checkHalves(t, b, low, high, prec)
		for range 5 {
			p := make([]api.Num, len(b))
			for i, x := range b {
				p[i] = s.between(x)
			}
			if !Has(b, p) || !Has(low, p) && !Has(high, p) {
				t.Fatalf("%v is in %v, but not in %v or %v", p, b, low, high)
			}
		}
	}
	if seen < 1500 {
		t.Errorf("only %d boxes", seen)
	}
}

// TestHalvesShrink: halved again and again, an ordinary box becomes small.
func TestHalvesShrink(t *testing.T) {
	b := boxOf(ints(-3, 5), ints(0, 7), ints(2, 2))
	for i := range 20 {
		low, high, err := Halve(b, 32)
		if err != api.OK {
			t.Fatalf("Halve(%v, 32) = %d", b, err)
		}
		checkHalves(t, b, low, high, 32)
		b = [][]api.Iv{low, high}[i%2]
	}
	if width, err := Wide(b, 32); err != api.OK || num.Cmp(width, of(1, -6)) > 0 {
		t.Errorf("after 20 halves, %v is %v wide", b, width)
	}
}
