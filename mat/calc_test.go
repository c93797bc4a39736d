package mat

import (
	"math"
	"slices"
	"testing"

	"fathomline/api"
)

// P7.2

// inside are values of prec in range, both bounds among them.
func inside() []int {
	return []int{api.MinPrec, api.MinPrec + 1, 63, 64, 65, 128, api.MaxPrec - 1, api.MaxPrec}
}

// outside are values of prec that are out of range.
func outside() []int {
	return []int{api.MinPrec - 1, api.MaxPrec + 1, 0, 1, -1, -api.MinPrec, -api.MaxPrec, 1<<32 + api.MinPrec, math.MaxInt32, math.MaxInt, math.MinInt}
}

// operands are all that an operation may take.
type operands struct {
	a, b [][]api.Iv
	v    []api.Iv
	x    api.Iv
}

// both are operands of one size.
func both(a, b [][]api.Iv) operands {
	return operands{a: a, b: b, v: filled(len(a), ints(1, 1))[0], x: ints(1, 1)}
}

// result is all that an operation may return.
type result struct {
	matrix [][]api.Iv
	box    []api.Iv
	nums   [][]api.Num
	norm   api.Num
}

func (r result) isEmpty() bool {
	return len(r.matrix) == 0 && len(r.box) == 0 && len(r.nums) == 0 && equal(r.norm, api.Num{})
}

func (r result) equals(s result) bool {
	return equalMat(r.matrix, s.matrix) && equalBox(r.box, s.box) && equalNums(r.nums, s.nums) && equal(r.norm, s.norm)
}

type operation func(o operands, prec int) (result, api.Errno)

// operations are those with a prec, by name. Each takes the operand a.
func operations() map[string]operation {
	return map[string]operation{
		"Add": func(o operands, prec int) (result, api.Errno) {
			m, err := Add(o.a, o.b, prec)
			return result{matrix: m}, err
		},
		"Sub": func(o operands, prec int) (result, api.Errno) {
			m, err := Sub(o.a, o.b, prec)
			return result{matrix: m}, err
		},
		"Mul": func(o operands, prec int) (result, api.Errno) {
			m, err := Mul(o.a, o.b, prec)
			return result{matrix: m}, err
		},
		"Times": func(o operands, prec int) (result, api.Errno) {
			m, err := Times(o.x, o.a, prec)
			return result{matrix: m}, err
		},
		"Vec": func(o operands, prec int) (result, api.Errno) {
			b, err := Vec(o.a, o.v, prec)
			return result{box: b}, err
		},
		"Mid": func(o operands, prec int) (result, api.Errno) {
			p, err := Mid(o.a, prec)
			return result{nums: p}, err
		},
		"Norm": func(o operands, prec int) (result, api.Errno) {
			x, err := Norm(o.a, prec)
			return result{norm: x}, err
		},
	}
}

// pairs are the names of the operations on two matrices.
func pairs() []string { return []string{"Add", "Sub", "Mul"} }

// expect calls an operation and holds its result against one that is wanted.
func expect(t *testing.T, name string, o operands, prec int, want result, wantErr api.Errno) {
	t.Helper()
	if got, err := operations()[name](o, prec); err != wantErr || !got.equals(want) {
		t.Errorf("%s of %v to %d bits: %v, %d, not %v, %d", name, o, prec, got, err, want, wantErr)
	}
}

// fails expects an error and nothing beside it.
func fails(t *testing.T, name string, o operands, prec int, wantErr api.Errno, what string) {
	t.Helper()
	if got, err := operations()[name](o, prec); err != wantErr || !got.isEmpty() {
		t.Errorf("%s to %d bits: %s: %v, %d, not %d", name, prec, what, got, err, wantErr)
	}
}

func TestAddSub(t *testing.T) {
	a := matrix(boxOf(ints(0, 2), ints(5, 7)), boxOf(ints(257, 257), ints(-1, 1)))
	b := matrix(boxOf(ints(1, 4), ints(-1, 6)), boxOf(ints(0, 2), ints(3, 3)))
	for _, x := range []struct {
		name string
		prec int
		want [][]api.Iv
	}{
		{"Add", 8, matrix(boxOf(ints(1, 6), ints(4, 13)), boxOf(ints(256, 260), ints(2, 4)))},
		{"Add", 9, matrix(boxOf(ints(1, 6), ints(4, 13)), boxOf(ints(257, 259), ints(2, 4)))},
		{"Add", 256, matrix(boxOf(ints(1, 6), ints(4, 13)), boxOf(ints(257, 259), ints(2, 4)))},
		{"Sub", 8, matrix(boxOf(ints(-4, 1), ints(-1, 8)), boxOf(ints(255, 258), ints(-4, -2)))},
		{"Sub", 9, matrix(boxOf(ints(-4, 1), ints(-1, 8)), boxOf(ints(255, 257), ints(-4, -2)))},
	} {
		expect(t, x.name, both(a, b), x.prec, result{matrix: x.want}, api.OK)
	}
	p, q := points(row{1, 2, 3}, row{4, 5, 6}, row{7, 8, 9}), points(row{10, 30, 50}, row{70, 90, -20}, row{-40, -60, -80})
	expect(t, "Add", both(p, q), 8, result{matrix: points(row{11, 32, 53}, row{74, 95, -14}, row{-33, -52, -71})}, api.OK)
	expect(t, "Sub", both(p, q), 8, result{matrix: points(row{-9, -28, -47}, row{-66, -85, 26}, row{47, 68, 89})}, api.OK)
	expect(t, "Sub", both(points(row{3}), points(row{5})), 8, result{matrix: points(row{-2})}, api.OK)
}

func TestTimes(t *testing.T) {
	m := matrix(boxOf(ints(0, 2), ints(5, 7)), boxOf(ints(-4, 3), ints(-257, -257)))
	for _, x := range []struct {
		x    api.Iv
		prec int
		want [][]api.Iv
	}{
		{ints(-1, 2), 8, matrix(boxOf(ints(-2, 4), ints(-7, 14)), boxOf(ints(-8, 6), ints(-516, 258)))},
		{ints(-1, 2), 9, matrix(boxOf(ints(-2, 4), ints(-7, 14)), boxOf(ints(-8, 6), ints(-514, 257)))},
		{ints(0, 0), 8, filled(2, ints(0, 0))},
		{ints(1, 1), 8, matrix(boxOf(ints(0, 2), ints(5, 7)), boxOf(ints(-4, 3), ints(-258, -256)))},
		{ints(-3, -2), 9, matrix(boxOf(ints(-6, 0), ints(-21, -10)), boxOf(ints(-9, 12), ints(514, 772)))},
	} {
		expect(t, "Times", operands{a: m, x: x.x}, x.prec, result{matrix: x.want}, api.OK)
	}
}

func TestMul(t *testing.T) {
	for _, x := range []struct{ a, b, want [][]api.Iv }{
		{points(row{3}), points(row{-5}), points(row{-15})},
		{points(row{1, 2}, row{3, 4}), points(row{5, -6}, row{7, 8}), points(row{19, 10}, row{43, 14})},
		{points(row{5, -6}, row{7, 8}), points(row{1, 2}, row{3, 4}), points(row{-13, -14}, row{31, 46})},
		{points(row{0, 1}, row{0, 0}), points(row{0, 0}, row{1, 0}), points(row{1, 0}, row{0, 0})},
		{points(row{0, 0}, row{1, 0}), points(row{0, 1}, row{0, 0}), points(row{0, 0}, row{0, 1})},
		{points(row{1, 2, 3}, row{4, 5, 6}, row{7, 8, 9}), points(row{1, 0, 2}, row{0, 3, 0}, row{4, 0, 5}), points(row{13, 6, 17}, row{28, 15, 38}, row{43, 24, 59})},
		{points(row{0, 1, 0, 0}, row{0, 0, 1, 0}, row{0, 0, 0, 1}, row{1, 0, 0, 0}), points(row{1, 2, 3, 4}, row{5, 6, 7, 8}, row{9, 10, 11, 12}, row{13, 14, 15, 16}), points(row{5, 6, 7, 8}, row{9, 10, 11, 12}, row{13, 14, 15, 16}, row{1, 2, 3, 4})},
		{matrix(boxOf(ints(-1, 2), ints(3, 4)), boxOf(ints(0, 1), ints(-2, -1))), matrix(boxOf(ints(3, 4), ints(1, 1)), boxOf(ints(-1, 1), ints(0, 5))), matrix(boxOf(ints(-8, 12), ints(-1, 22)), boxOf(ints(-2, 6), ints(-10, 1)))},
	} {
		expect(t, "Mul", both(x.a, x.b), 8, result{matrix: x.want}, api.OK)
	}
	for n := 1; n <= api.MaxDim; n++ {
		m := filled(n, ints(0, 0))
		for i := range n {
			for j := range n {
				m[i][j] = ints(int64(i-3*j), int64(i+j*j))
			}
		}
		expect(t, "Mul", both(Id(n), m), 8, result{matrix: m}, api.OK)
		expect(t, "Mul", both(m, Id(n)), 8, result{matrix: m}, api.OK)
	}
}

func TestVec(t *testing.T) {
	for _, x := range []struct {
		m       [][]api.Iv
		b, want []api.Iv
	}{
		{points(row{3}), pointsOf(row{-5}), pointsOf(row{-15})},
		{points(row{1, 2}, row{3, 4}), pointsOf(row{5, -6}), pointsOf(row{-7, -9})},
		{points(row{1, 2}, row{3, 4}), boxOf(ints(1, 2), ints(-1, 1)), boxOf(ints(-1, 4), ints(-1, 10))},
		{points(row{1, 2, 3}, row{4, 5, 6}, row{7, 8, 9}), pointsOf(row{1, 0, -2}), pointsOf(row{-5, -8, -11})},
		{points(row{0, 1, 0, 0}, row{0, 0, 1, 0}, row{0, 0, 0, 1}, row{1, 0, 0, 0}), boxOf(ints(1, 2), ints(3, 4), ints(-1, 1), ints(0, 0)), boxOf(ints(3, 4), ints(-1, 1), ints(0, 0), ints(1, 2))},
		{matrix(boxOf(ints(-1, 2), ints(3, 4)), boxOf(ints(0, 1), ints(-2, -1))), boxOf(ints(3, 4), ints(-1, 1)), boxOf(ints(-8, 12), ints(-2, 6))},
	} {
		expect(t, "Vec", operands{a: x.m, v: x.b}, 8, result{box: x.want}, api.OK)
	}
}

func TestMid(t *testing.T) {
	m := matrix(boxOf(ints(0, 2), ints(5, 8)), boxOf(ints(-3, -3), ints(0, 1023)))
	for _, x := range []struct {
		prec int
		last int64 // twice the last number
	}{{8, 1020}, {9, 1022}, {10, 1023}, {256, 1023}} {
		want := [][]api.Num{{of(1, 0), of(13, -1)}, {of(-3, 0), odd(x.last, -1)}}
		expect(t, "Mid", operands{a: m}, x.prec, result{nums: want}, api.OK)
	}
	// Where no number of so many bits is in an interval, its Lo is the middle.
	expect(t, "Mid", operands{a: points(row{257, -257}, row{0, 1})}, 8, result{nums: [][]api.Num{{of(257, 0), of(-257, 0)}, {{}, of(1, 0)}}}, api.OK)
	expect(t, "Mid", operands{a: points(row{-4})}, 8, result{nums: [][]api.Num{{of(-1, 2)}}}, api.OK)
}

// ordered is a sum of terms whose order tells: to 8 bits, 257 is rounded to
// 256 and 258, and 259 to 258 and 260.
type ordered struct {
	terms row
	want  api.Iv
}

func orderedSums() []ordered {
	return []ordered{
		{row{256, 1}, ints(256, 258)},
		{row{256, 1, 1}, ints(256, 260)},
		{row{1, 256, 1}, ints(256, 260)},
		{row{1, 1, 256}, ints(258, 258)},
		{row{-256, -1, -1}, ints(-260, -256)},
		{row{-1, -1, -256}, ints(-258, -258)},
		{row{256, 1, -256}, ints(0, 2)},
		{row{256, -256, 1}, ints(1, 1)},
		{row{256, 1, 1, 1}, ints(256, 262)},
		{row{1, 256, 1, 1}, ints(256, 262)},
		{row{1, 1, 256, 1}, ints(258, 260)},
		{row{1, 1, 1, 256}, ints(258, 260)},
		{row{257, 0, 1, 1}, ints(256, 262)},
	}
}

// TestSumOrder has such a sum at each place: by ascending indices, each
// addition rounded.
func TestSumOrder(t *testing.T) {
	for _, x := range orderedSums() {
		n := len(x.terms)
		terms, ones := pointsOf(x.terms), filled(n, ints(1, 1))[0]
		for i := range n {
			left := butRow(filled(n, ints(0, 0)), i, terms)
			want := butRow(filled(n, ints(0, 0)), i, slices.Repeat(boxOf(x.want), n))
			expect(t, "Mul", both(left, filled(n, ints(1, 1))), 8, result{matrix: want}, api.OK)
			expect(t, "Mul", both(filled(n, ints(1, 1)), turned(left)), 8, result{matrix: turned(want)}, api.OK)
			expect(t, "Vec", operands{a: left, v: ones}, 8, result{box: turned(want)[0]}, api.OK)
			single := butRow(filled(n, ints(0, 0)), i, ones)
			expect(t, "Vec", operands{a: single, v: terms}, 8, result{box: turned(want)[0]}, api.OK)
		}
	}
}

// turned is m with its rows as columns.
func turned(m [][]api.Iv) [][]api.Iv {
	c := filled(len(m), api.Iv{})
	for i, r := range m {
		for j, a := range r {
			c[j][i] = a
		}
	}
	return c
}

// TestProductsRounded: each product is rounded ahead of the addition. To 8
// bits, 17 times 17 is rounded to 288 and 290, and 223 times 17 to 3776 and
// 3792.
func TestProductsRounded(t *testing.T) {
	a, b := points(row{17, 223}, row{223, 17}), points(row{17, 1}, row{1, 17})
	want := matrix(boxOf(ints(510, 516), ints(3792, 3824)), boxOf(ints(3792, 3824), ints(510, 516)))
	expect(t, "Mul", both(a, b), 8, result{matrix: want}, api.OK)
	expect(t, "Vec", operands{a: a, v: pointsOf(row{17, 1})}, 8, result{box: boxOf(ints(510, 516), ints(3792, 3824))}, api.OK)
	expect(t, "Mul", both(points(row{17}), points(row{17})), 8, result{matrix: matrix(boxOf(ints(288, 290)))}, api.OK)
	expect(t, "Mul", both(points(row{17}), points(row{17})), 9, result{matrix: points(row{289})}, api.OK)
	expect(t, "Vec", operands{a: points(row{257}), v: pointsOf(row{-1})}, 8, result{box: boxOf(ints(-258, -256))}, api.OK)
}

func TestInvalidMatrix(t *testing.T) {
	for rule, m := range invalidMatrices() {
		for n := 1; n <= api.MaxDim; n++ {
			o := both(filled(n, ints(0, 1)), m)
			for _, name := range pairs() {
				fails(t, name, o, 8, api.ErrForm, rule)
			}
			o.a, o.b = o.b, o.a
			for name := range operations() {
				fails(t, name, o, 8, api.ErrForm, rule)
			}
		}
		for _, prec := range []int{api.MinPrec, 64, api.MaxPrec, api.MinPrec - 1} {
			o := operands{a: m, b: m, x: ints(1, 1)}
			if len(m) > 0 {
				o.v = slices.Repeat(boxOf(ints(0, 1)), len(m))
			}
			for name := range operations() {
				fails(t, name, o, prec, api.ErrForm, rule)
			}
		}
	}
}

func TestInvalidFactor(t *testing.T) {
	for rule, x := range invalidIvs() {
		for _, m := range append(validMatrices(), nil, filled(2, ints(2, 1))) {
			fails(t, "Times", operands{a: m, x: x}, 8, api.ErrForm, rule)
		}
	}
}

func TestInvalidBox(t *testing.T) {
	for n := 1; n <= api.MaxDim; n++ {
		o := operands{a: filled(n, ints(0, 1))}
		fails(t, "Vec", o, 8, api.ErrForm, "nil")
		for rule, x := range invalidIvs() {
			for i := range n {
				o.v = but(filled(n, ints(0, 1)), 0, i, x)[0]
				fails(t, "Vec", o, 8, api.ErrForm, rule)
			}
		}
	}
	fails(t, "Vec", operands{a: filled(5, ints(0, 1)), v: pointsOf(row{1, 2, 3, 4, 5})}, 8, api.ErrForm, "5 rows")
}

// TestSizes has all sizes of valid operands beside each other.
func TestSizes(t *testing.T) {
	for n := 1; n <= api.MaxDim; n++ {
		for k := 1; k <= 2*api.MaxDim; k++ {
			a, b := filled(n, ints(1, 1)), filled(k, ints(1, 1))
			o := operands{a: a, b: b, v: b[0], x: ints(1, 1)}
			for _, name := range append(pairs(), "Vec") {
				if n != k {
					fails(t, name, o, 8, api.ErrForm, "another size")
				} else if got, err := operations()[name](o, 8); err != api.OK || len(got.matrix)+len(got.box) != n {
					t.Errorf("%s of %d rows: %v, %d", name, n, got, err)
				}
			}
		}
	}
	fails(t, "Vec", operands{a: points(row{1, 2}, row{3, 4})}, 8, api.ErrForm, "no box")
}

// TestPrec: both bounds are in range, for matrices of every size, and ErrForm
// goes ahead of ErrOver.
func TestPrec(t *testing.T) {
	for _, m := range validMatrices() {
		o := both(m, m)
		o.v = m[len(m)-1]
		o.x = m[0][0]
		for _, prec := range outside() {
			for name := range operations() {
				fails(t, name, o, prec, api.ErrForm, "prec out of range")
			}
		}
	}
	for n := 1; n <= api.MaxDim; n++ {
		m := but(filled(n, ints(0, 3)), n-1, 0, ints(-5, 8))
		for name, call := range operations() {
			for _, prec := range inside() {
				if got, err := call(both(m, m), prec); err != api.OK || got.isEmpty() {
					t.Errorf("%s of %v to %d bits: %v, %d", name, m, prec, got, err)
				}
			}
		}
	}
}

// TestPrecIsUsed: one bit more than prec is rounded, at both bounds.
func TestPrecIsUsed(t *testing.T) {
	for _, prec := range inside() {
		x := wide(prec+1, 0)
		outer := from(of(1, int64(prec)), above(prec))
		one, zero := ints(1, 1), ints(0, 0)
		m, pad := matrix(boxOf(point(x), zero), boxOf(zero, one)), matrix(boxOf(outer, zero), boxOf(zero, one))
		o := operands{a: m, b: Id(2), v: boxOf(one, one), x: one}
		expect(t, "Add", operands{a: m, b: filled(2, zero)}, prec, result{matrix: pad}, api.OK)
		expect(t, "Sub", operands{a: m, b: filled(2, zero)}, prec, result{matrix: pad}, api.OK)
		expect(t, "Mul", o, prec, result{matrix: pad}, api.OK)
		expect(t, "Times", o, prec, result{matrix: pad}, api.OK)
		expect(t, "Vec", o, prec, result{box: boxOf(outer, one)}, api.OK)
		expect(t, "Norm", o, prec, result{norm: outer.Hi}, api.OK)
		half := from(api.Num{}, full(prec+1, 0))
		want := full(prec, 0)
		expect(t, "Mid", operands{a: matrix(boxOf(half))}, prec, result{nums: [][]api.Num{{want}}}, api.OK)
	}
}

// above is the least number of prec bits that is greater than 2^prec.
func above(prec int) api.Num { return wide(prec, 1) }

// TestFormBeforeOver: an interval that is not valid counts, even if what
// stands ahead of it is too great for the operation.
func TestFormBeforeOver(t *testing.T) {
	high := from(minus(full(maxBits, maxExp)), full(maxBits, maxExp))
	bad := ints(2, 1)
	positions(func(n, i, j int) {
		if i+j == 0 {
			return
		}
		good, m := filled(n, high), but(filled(n, high), i, j, bad)
		for name := range operations() {
			fails(t, name, operands{a: m, b: good, v: good[0], x: high}, 8, api.ErrForm, "not valid")
		}
		for _, name := range pairs() {
			fails(t, name, both(good, m), 8, api.ErrForm, "second not valid")
		}
		fails(t, "Vec", operands{a: good, v: but(good, 0, n-1, bad)[0]}, 8, api.ErrForm, "box not valid")
	})
}
