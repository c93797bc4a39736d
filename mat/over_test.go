package mat

import (
	"slices"
	"testing"

	"fathomline/api"
)

// P7.2 and P7.3: ErrOver.

// TestOverAtOnePosition has matrices for whose element at one position alone,
// each in turn, the operation fails.
func TestOverAtOnePosition(t *testing.T) {
	low, top := of(1, -maxExp), of(1, maxExp)
	around := from(minus(top), top)
	for _, x := range []struct {
		name string
		a, b api.Iv // the elements of both, or the factor as b
	}{
		{"Add", point(top), point(top)}, {"Add", from(api.Num{}, top), point(top)}, {"Add", from(minus(top), api.Num{}), around},
		{"Sub", point(top), around}, {"Sub", from(api.Num{}, top), around}, {"Sub", from(minus(top), api.Num{}), point(top)},
		{"Times", point(top), ints(1, 2)}, {"Times", from(api.Num{}, top), ints(1, 2)}, {"Times", from(minus(top), api.Num{}), ints(1, 2)},
		{"Times", point(low), point(of(1, -1))}, {"Times", point(top), ints(-2, 0)},
		{"Mid", from(api.Num{}, low), api.Iv{}}, {"Mid", from(minus(low), api.Num{}), api.Iv{}}, {"Mid", from(top, of(3, maxExp)), api.Iv{}},
		{"Mid", from(of(255, maxExp), of(257, maxExp)), api.Iv{}},
	} {
		positions(func(n, i, j int) {
			zeros := filled(n, ints(0, 0))
			o := operands{a: zeros, b: zeros, x: x.b}
			if got, err := operations()[x.name](o, 8); err != api.OK || got.isEmpty() {
				t.Errorf("%s of %v = %v, %d", x.name, o, got, err)
			}
			o.a, o.b = but(zeros, i, j, x.a), but(zeros, i, j, x.b)
			fails(t, x.name, o, 8, api.ErrOver, "too great or too small")
		})
	}
}

// TestOverInOneProduct: one product alone has no valid number, though the sum
// of all of them may have one.
func TestOverInOneProduct(t *testing.T) {
	low, top := of(1, -maxExp), of(1, maxExp)
	for _, x := range []struct{ a, b api.Iv }{
		{point(top), ints(2, 2)}, {point(minus(top)), ints(2, 2)}, {from(api.Num{}, top), ints(-2, 1)},
		{point(low), point(of(1, -1))}, {point(of(-1, -1)), point(low)}, {ints(0, 2), from(api.Num{}, top)},
	} {
		positions(func(n, i, k int) {
			a := but(filled(n, ints(1, 1)), i, k, x.a)
			for j := range n {
				b := but(filled(n, ints(0, 0)), k, j, x.b)
				fails(t, "Mul", both(a, b), 8, api.ErrOver, "one product")
				fails(t, "Vec", operands{a: a, v: turned(b)[j]}, 8, api.ErrOver, "one product")
			}
		})
	}
	// The exact sum is 0, but 2 times 2^MaxExp is no number.
	a, b := matrix(boxOf(point(top), point(minus(top))), boxOf(ints(0, 0), ints(0, 0))), filled(2, ints(2, 2))
	fails(t, "Mul", both(a, b), 8, api.ErrOver, "products of sum 0")
	fails(t, "Vec", operands{a: a, v: b[0]}, 8, api.ErrOver, "products of sum 0")
}

// TestOverInAdditionOnly: all products are numbers, but a sum of two is none.
func TestOverInAdditionOnly(t *testing.T) {
	top := of(1, maxExp)
	for _, x := range []struct{ a, b api.Iv }{
		{point(top), point(top)}, {point(minus(top)), point(minus(top))}, {point(top), from(api.Num{}, top)},
		{from(minus(top), api.Num{}), from(minus(top), top)}, {point(of(255, maxExp)), point(of(1, -maxExp))},
	} {
		positions(func(n, k, l int) {
			if k >= l {
				return
			}
			terms := slices.Repeat(boxOf(ints(0, 0)), n)
			terms[k], terms[l] = x.a, x.b
			ones := slices.Repeat(boxOf(ints(1, 1)), n)
			for i := range n {
				left := butRow(filled(n, ints(0, 0)), i, terms)
				fails(t, "Vec", operands{a: left, v: ones}, 8, api.ErrOver, "an addition")
				fails(t, "Vec", operands{a: butRow(filled(n, ints(0, 0)), i, ones), v: terms}, 8, api.ErrOver, "an addition")
				for j := range n {
					right := turned(butRow(filled(n, ints(0, 0)), j, ones))
					fails(t, "Mul", both(left, right), 8, api.ErrOver, "an addition")
					fails(t, "Mul", both(turned(right), turned(left)), 8, api.ErrOver, "an addition")
				}
			}
		})
	}
}

// TestOverByOrder: the sum of the first terms decides, not that of all.
func TestOverByOrder(t *testing.T) {
	top := of(1, maxExp)
	p, m := point(top), point(minus(top))
	for _, x := range []struct {
		terms []api.Iv
		err   api.Errno
	}{
		{boxOf(p, m, p), api.OK}, {boxOf(m, p, m), api.OK}, {boxOf(p, p, m), api.ErrOver}, {boxOf(m, p, p), api.OK},
		{boxOf(m, m, p), api.ErrOver}, {boxOf(p, m, m), api.OK}, {boxOf(p, m, p, m), api.OK}, {boxOf(p, m, m, p), api.OK}, {boxOf(m, p, p, p), api.ErrOver},
		{boxOf(p, p, m, m), api.ErrOver},
	} {
		n := len(x.terms)
		a := butRow(filled(n, ints(0, 0)), n-1, x.terms)
		ones := filled(n, ints(1, 1))
		if got, err := Vec(a, ones[0], 8); err != x.err || (len(got) == n) != (err == api.OK) {
			t.Errorf("Vec(%v) = %v, %d", a, got, err)
		}
		if got, err := Mul(a, ones, 8); err != x.err || (len(got) == n) != (err == api.OK) {
			t.Errorf("Mul(%v) = %v, %d", a, got, err)
		}
	}
}

// TestNormOver: one row's sum alone has no valid number, and may be less than
// another row's.
func TestNormOver(t *testing.T) {
	top, high, low := of(1, maxExp), of(255, maxExp), of(1, -maxExp)
	for _, x := range []struct{ a, b api.Iv }{
		{point(top), point(top)}, {point(minus(top)), point(top)}, {from(minus(top), of(1, 0)), from(minus(top), low)},
		{point(high), point(low)}, {point(low), point(minus(high))}, {point(full(maxBits, maxExp)), ints(0, 0)}, {ints(0, 0), point(of(511, maxExp))},
	} {
		positions(func(n, k, l int) {
			if k >= l {
				return
			}
			terms := slices.Repeat(boxOf(ints(0, 0)), n)
			terms[k], terms[l] = x.a, x.b
			for i := range n {
				m := but(filled(n, ints(0, 0)), (i+1)%n, 0, point(high))
				if got, err := Norm(m, 8); err != api.OK || !equal(got, high) {
					t.Errorf("Norm(%v, 8) = %v, %d", m, got, err)
				}
				fails(t, "Norm", operands{a: butRow(m, i, terms)}, 8, api.ErrOver, "an addition")
			}
		})
	}
	// The one element of a row is not added to anything, so nothing is rounded.
	most := full(maxBits, maxExp)
	expect(t, "Norm", operands{a: matrix(boxOf(point(minus(most))))}, 8, result{norm: most}, api.OK)
}
