package mat

import (
	"slices"
	"testing"

	"fathomline/api"
)

// P7.3

func TestNorm(t *testing.T) {
	tiny := from(of(-1, -maxExp), api.Num{})
	for _, x := range []struct {
		m    [][]api.Iv
		prec int
		want api.Num
	}{
		{points(row{1, -2}, row{0, 3}), 8, of(3, 0)}, // the chapter's example
		{points(row{0}), 8, api.Num{}}, {points(row{-5}), 8, of(5, 0)}, {points(row{5}), 8, of(5, 0)},
		{filled(4, ints(0, 0)), 8, api.Num{}}, {Id(4), 8, of(1, 0)},
		{matrix(boxOf(ints(-5, 2))), 8, of(5, 0)}, {matrix(boxOf(ints(-2, 5))), 8, of(5, 0)}, {matrix(boxOf(ints(-5, -2))), 8, of(5, 0)},
		{matrix(boxOf(ints(-5, 2), ints(1, 4)), boxOf(ints(0, 0), ints(8, 8))), 8, of(9, 0)},
		{matrix(boxOf(ints(-5, 2), ints(1, 3)), boxOf(ints(0, 0), ints(-9, -8))), 8, of(9, 0)},
		{matrix(boxOf(tiny, ints(0, 0)), boxOf(ints(0, 0), ints(0, 0))), 8, of(1, -maxExp)},
		// Rows count, not columns.
		{points(row{1, 0}, row{1, 0}), 8, of(1, 0)}, {points(row{1, 1}, row{0, 0}), 8, of(1, 1)}, {points(row{0, 0}, row{1, 1}), 8, of(1, 1)},
		{points(row{1, 2, 3}, row{1, 2, 3}, row{1, 2, 3}), 8, of(3, 1)},
		{points(row{1, 2, 3, 4}, row{5, 6, 7, 8}, row{-9, -10, -11, -12}, row{13, -14, 0, 1}), 8, of(21, 1)},
		// Several rows have the same sum.
		{points(row{1, -2}, row{3, 0}), 8, of(3, 0)}, {points(row{3, 1, 1}, row{1, 3, 1}, row{1, -1, 3}), 8, of(5, 0)},
		{points(row{4, 0, 0}, row{1, 1, 0}, row{-2, -2, 0}), 8, of(1, 2)},
		// Each addition is rounded up, and what nothing is added to is not.
		{points(row{257}), 8, of(257, 0)}, {points(row{-257}), 8, of(257, 0)}, {points(row{257, 0}, row{0, 0}), 8, of(129, 1)},
		{points(row{0, 0}, row{0, -257}), 8, of(129, 1)}, {points(row{0, 257}, row{0, 0}), 9, of(257, 0)},
		{points(row{100, -101}, row{0, 0}), 8, of(201, 0)}, {points(row{200, 57}, row{0, 0}), 8, of(129, 1)},
		{points(row{200, 57, 1}, row{0, 0, 0}, row{0, 0, 0}), 8, of(65, 2)},
		{matrix(boxOf(point(wide(maxBits, -maxExp)))), 8, wide(maxBits, -maxExp)},
		// 259 is the exact sum of the one row, and 260 that of the other, but
		// rounded the one is greater.
		{points(row{256, 1, 1, 1}, row{1, 1, 258, 0}, row{0, 0, 0, 0}, row{0, 0, 0, 0}), 8, of(131, 1)},
		{points(row{1, 1, 258, 0}, row{256, 1, 1, 1}, row{0, 0, 0, 0}, row{0, 0, 0, 0}), 8, of(131, 1)},
	} {
		expect(t, "Norm", operands{a: x.m}, x.prec, result{norm: x.want}, api.OK)
	}
}

// TestNormOrder has sums whose order tells in each row, as the greatest one.
func TestNormOrder(t *testing.T) {
	for _, x := range []struct {
		terms row
		want  int64
	}{
		{row{256, 1, 1}, 260}, {row{1, 256, 1}, 260}, {row{1, 1, 256}, 258}, {row{-256, 1, -1}, 260}, {row{-1, -1, -256}, 258},
		{row{256, 1, 1, 1}, 262}, {row{1, 1, 256, 1}, 260}, {row{1, 1, 1, 256}, 260}, {row{1, 1, 0, 257}, 260}, {row{257, 0, 1, 1}, 262},
	} {
		n := len(x.terms)
		for i := range n {
			m := butRow(filled(n, ints(-1, 60)), i, pointsOf(x.terms))
			expect(t, "Norm", operands{a: m}, 8, result{norm: odd(x.want, 0)}, api.OK)
		}
	}
}

// TestNormGreatest has the greatest sum in each row, and the others in all
// orders.
func TestNormGreatest(t *testing.T) {
	for n := 1; n <= api.MaxDim; n++ {
		for code := range 1 << (2 * n) {
			var m [][]api.Iv
			best := int64(0)
			for i := range n {
				size := int64(code >> (2 * i) & 3)
				m = append(m, pointsOf(slices.Repeat(row{-size}, n)))
				best = max(best, size)
			}
			expect(t, "Norm", operands{a: m}, 8, result{norm: odd(int64(n)*best, 0)}, api.OK)
		}
	}
}
