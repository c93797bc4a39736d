package mat

import (
	"fmt"
	"math"
	"slices"
	"testing"

	"fathomline/api"
)

const (
	all     = math.MaxUint64
	maxBits = 64 * api.MaxWords
	maxExp  = api.MaxExp
)

// of is m times 2^exp, as it is written: valid if m is odd.
func of(m, exp int64) api.Num {
	if m < 0 {
		return api.Num{Neg: true, Exp: exp, W: []uint64{-uint64(m)}}
	}
	return api.Num{Exp: exp, W: []uint64{uint64(m)}}
}

// odd is the valid number m times 2^exp.
func odd(m, exp int64) api.Num {
	if m == 0 {
		return api.Num{}
	}
	for m%2 == 0 {
		m, exp = m/2, exp+1
	}
	return of(m, exp)
}

// minus is -x; a 0 stays as it is.
func minus(x api.Num) api.Num {
	x.Neg = !x.Neg && len(x.W) > 0
	return x
}

// wide is 2^(bits-1) + 1 times 2^exp: that many bits, the outer ones 1.
func wide(bits int, exp int64) api.Num {
	w := make([]uint64, (bits+63)/64)
	w[(bits-1)/64] = 1 << ((bits - 1) % 64)
	w[0] |= 1
	return api.Num{Exp: exp, W: w}
}

// full is 2^bits - 1 times 2^exp.
func full(bits int, exp int64) api.Num {
	w := slices.Repeat([]uint64{all}, (bits+63)/64)
	w[len(w)-1] >>= uint(64*len(w) - bits)
	return api.Num{Exp: exp, W: w}
}

func from(lo, hi api.Num) api.Iv { return api.Iv{Lo: lo, Hi: hi} }

func point(x api.Num) api.Iv { return from(x, x) }

// ints is the interval from lo to hi.
func ints(lo, hi int64) api.Iv { return from(odd(lo, 0), odd(hi, 0)) }

func boxOf(b ...api.Iv) []api.Iv { return b }

func matrix(rows ...[]api.Iv) [][]api.Iv { return rows }

type row = []int64

// points is the matrix of the point intervals of integers.
func points(rows ...row) [][]api.Iv {
	var m [][]api.Iv
	for _, r := range rows {
		m = append(m, pointsOf(r))
	}
	return m
}

func pointsOf(r row) []api.Iv {
	var b []api.Iv
	for _, x := range r {
		b = append(b, ints(x, x))
	}
	return b
}

// filled is the matrix of n rows and columns of the same interval.
func filled(n int, a api.Iv) [][]api.Iv { return shaped(n, n, a) }

func shaped(rows, columns int, a api.Iv) [][]api.Iv {
	var m [][]api.Iv
	for range rows {
		m = append(m, slices.Repeat([]api.Iv{a}, columns))
	}
	return m
}

// but is m with another interval at one position.
func but(m [][]api.Iv, i, j int, a api.Iv) [][]api.Iv {
	r := slices.Clone(m[i])
	r[j] = a
	return butRow(m, i, r)
}

func butRow(m [][]api.Iv, i int, r []api.Iv) [][]api.Iv {
	m = slices.Clone(m)
	m[i] = r
	return m
}

func equal(a, b api.Num) bool {
	return a.Neg == b.Neg && a.Exp == b.Exp && slices.Equal(a.W, b.W)
}

func equalIv(a, b api.Iv) bool { return equal(a.Lo, b.Lo) && equal(a.Hi, b.Hi) }

func equalBox(a, b []api.Iv) bool { return slices.EqualFunc(a, b, equalIv) }

func equalMat(a, b [][]api.Iv) bool { return slices.EqualFunc(a, b, equalBox) }

func equalNums(a, b [][]api.Num) bool {
	return slices.EqualFunc(a, b, func(x, y []api.Num) bool { return slices.EqualFunc(x, y, equal) })
}

// positions calls f for each position of each size.
func positions(f func(n, i, j int)) {
	for n := 1; n <= api.MaxDim; n++ {
		for i := range n {
			for j := range n {
				f(n, i, j)
			}
		}
	}
}

// invalid are numbers that are not valid (P2.1), by the reason.
func invalid() map[string]api.Num {
	return map[string]api.Num{
		"0 that is negated":      {Neg: true},
		"0 with an exponent":     {Exp: 1},
		"highest word 0":         {W: []uint64{1, 0}},
		"lowest bit 0":           of(2, 0),
		"one word too many":      wide(maxBits+1, 0),
		"exponent above MaxExp":  of(1, maxExp+1),
		"exponent below -MaxExp": of(-1, -maxExp-1),
	}
}

// invalidIvs are intervals that are not valid (P5.1), by the reason.
func invalidIvs() map[string]api.Iv {
	ivs := map[string]api.Iv{
		"Lo greater than Hi":         ints(2, 1),
		"Lo above 0, Hi below":       ints(1, -1),
		"Lo 0, Hi below 0":           ints(0, -1),
		"Lo greater in the last bit": from(wide(maxBits, 0), of(1, maxBits-1)),
	}
	for rule, x := range invalid() {
		ivs["Lo: "+rule] = from(x, of(1, 9))
		ivs["Hi: "+rule] = from(of(-1, 9), x)
		ivs["both: "+rule] = point(x)
	}
	return ivs
}

// validIvs are intervals below, above, at and around 0, of all sizes.
func validIvs() []api.Iv {
	return []api.Iv{
		{}, {Lo: api.Num{W: []uint64{}}}, ints(1, 1), ints(-1, 1), ints(0, 1), ints(-1, 0), ints(3, 7), ints(-7, -3),
		from(of(1, -maxExp), of(1, maxExp)), from(of(-1, maxExp), of(-1, -maxExp)),
		point(full(maxBits, maxExp)), from(minus(full(maxBits, maxExp)), full(maxBits, maxExp)),
	}
}

// misshapen are matrices of valid intervals that are not square or have no
// size in range, by the reason.
func misshapen() map[string][][]api.Iv {
	a := ints(0, 1)
	list := map[string][][]api.Iv{
		"nil":                    nil,
		"no row":                 {},
		"no row, but room":       make([][]api.Iv, 0, api.MaxDim),
		"MaxDim + 1 rows":        filled(api.MaxDim+1, a),
		"MaxDim + 1 point rows":  filled(api.MaxDim+1, ints(0, 0)),
		"twice MaxDim rows":      filled(2*api.MaxDim, a),
		"2^8 + MaxDim rows":      filled(1<<8+api.MaxDim, a),
		"very many rows":         shaped(1<<16, 1, a),
		"one very long row":      shaped(1, 1<<16, a),
		"MaxDim + 1 empty rows":  make([][]api.Iv, api.MaxDim+1),
		"an identity beyond all": points(row{1, 0, 0, 0, 0}, row{0, 1, 0, 0, 0}, row{0, 0, 1, 0, 0}, row{0, 0, 0, 1, 0}, row{0, 0, 0, 0, 1}),
	}
	for n := 1; n <= api.MaxDim; n++ {
		list[fmt.Sprintf("%d empty rows", n)] = make([][]api.Iv, n)
		list[fmt.Sprintf("%d rows, all shorter", n)] = shaped(n, n-1, a)
		list[fmt.Sprintf("%d rows, all longer", n)] = shaped(n, n+1, a)
		for i := range n {
			m := filled(n, a)
			list[fmt.Sprintf("%d rows, %d empty", n, i)] = butRow(m, i, nil)
			list[fmt.Sprintf("%d rows, %d shorter", n, i)] = butRow(m, i, m[i][1:])
			list[fmt.Sprintf("%d rows, %d longer", n, i)] = butRow(m, i, append(slices.Clone(m[i]), a))
			if n > 1 {
				// As many intervals as a square has.
				other := butRow(m, i, m[i][1:])
				list[fmt.Sprintf("%d rows, %d shorter, another longer", n, i)] = butRow(other, (i+1)%n, append(slices.Clone(m[i]), a))
			}
		}
	}
	return list
}

// invalidMatrices are matrices that are not valid, by the reason.
func invalidMatrices() map[string][][]api.Iv {
	list := misshapen()
	for rule, a := range invalidIvs() {
		positions(func(n, i, j int) {
			list[fmt.Sprintf("%d rows, at %d %d: %s", n, i, j, rule)] = but(filled(n, ints(0, 1)), i, j, a)
		})
	}
	return list
}

// validMatrices are matrices of all sizes.
func validMatrices() [][][]api.Iv {
	var list [][][]api.Iv
	ivs := validIvs()
	for n := 1; n <= api.MaxDim; n++ {
		for k := range ivs {
			m := filled(n, api.Iv{})
			for i := range n {
				for j := range n {
					m[i][j] = ivs[(k+(i*n+j)*5)%len(ivs)]
				}
			}
			list = append(list, m)
		}
	}
	return list
}

// P7.1

func TestRight(t *testing.T) {
	for _, m := range validMatrices() {
		if !Right(m) {
			t.Errorf("%v is not valid", m)
		}
	}
	for rule, m := range invalidMatrices() {
		if Right(m) {
			t.Errorf("%s: valid", rule)
		}
	}
}

func TestId(t *testing.T) {
	for n := 1; n <= api.MaxDim; n++ {
		want := filled(n, ints(0, 0))
		for i := range n {
			want = but(want, i, i, ints(1, 1))
		}
		if got := Id(n); !equalMat(got, want) || !Right(got) {
			t.Errorf("Id(%d) = %v", n, got)
		}
	}
	for _, n := range []int{0, -1, -2, -api.MaxDim, api.MaxDim + 1, 2 * api.MaxDim, 1<<8 + 1, 1<<32 + 1, math.MaxInt, math.MinInt} {
		if got := Id(n); len(got) != 0 {
			t.Errorf("Id(%d) = %v", n, got)
		}
	}
}

func TestOf(t *testing.T) {
	x, y, z := of(3, 5), of(-1, -maxExp), full(maxBits, maxExp)
	for _, a := range [][][]api.Num{
		nil, {}, {nil}, {{}}, {nil, nil, nil}, {{x}}, {{x, y}, {z, {}}}, {{x, y, z}, {z, x, y}, {y, z, x}},
		{{x, y}}, {{x}, {y}}, {{x}, {y, z}, {}, {z, y, x}, {x, x, x, x, x}, nil}, {nil, {x}}, make([][]api.Num, 9),
	} {
		checkOf(t, a)
	}
	for _, bad := range invalid() {
		checkOf(t, [][]api.Num{{bad}})
		checkOf(t, [][]api.Num{{x, y}, {z, bad}})
		checkOf(t, [][]api.Num{{x, bad, y}, {bad}})
		if Right(Of([][]api.Num{{x, y}, {z, bad}})) {
			t.Errorf("Of %v is valid", bad)
		}
	}
	if !Right(Of([][]api.Num{{x, y}, {z, {}}})) {
		t.Error("Of valid numbers is not valid")
	}
}

func checkOf(t *testing.T, a [][]api.Num) {
	t.Helper()
	got := Of(a)
	if len(got) != len(a) {
		t.Fatalf("Of(%v) = %v", a, got)
	}
	for i, r := range a {
		if len(got[i]) != len(r) {
			t.Fatalf("Of(%v) = %v", a, got)
		}
		for j, x := range r {
			if !equalIv(got[i][j], point(x)) {
				t.Errorf("Of(%v) = %v", a, got)
			}
		}
	}
}

// TestSame: only the fields count, not the values and not validity.
func TestSame(t *testing.T) {
	list := [][][]api.Iv{
		nil, {nil}, {nil, nil}, make([][]api.Iv, 5), {nil, {ints(1, 2)}}, {{ints(1, 2)}, nil}, {{ints(1, 2)}},
		{{ints(1, 3)}}, {{ints(0, 2)}}, {{ints(2, 1)}}, {{ints(-2, -1)}}, {{point(of(6, 0))}}, {{point(of(3, 1))}},
		{{ints(1, 2), ints(3, 4)}}, {{ints(1, 2)}, {ints(3, 4)}}, {{ints(3, 4)}, {ints(1, 2)}},
		points(row{1, 2}, row{3, 4}), points(row{1, 3}, row{2, 4}), points(row{3, 4}, row{1, 2}), points(row{1, 2}, row{3, 5}),
		points(row{1, 2}, row{3}), points(row{1, 2}, row{3}, row{4}), points(row{1}, row{2, 3, 4}), points(row{1, 2, 3, 4}),
		points(row{1, 2}, row{3, 4}, row{5, 6}), points(row{1, 2}), points(row{1, 2}, row{3, 4, 5}), points(row{1, 2, 5}, row{3, 4}),
		filled(3, ints(0, 0)), filled(4, ints(0, 0)), filled(5, ints(0, 0)), filled(6, ints(0, 0)),
	}
	for _, x := range invalid() {
		list = append(list, matrix(boxOf(point(x))), but(filled(2, ints(1, 2)), 1, 1, from(x, of(5, 0))), but(filled(2, ints(1, 2)), 1, 1, from(of(5, 0), x)))
	}
	for i, a := range list {
		for j, b := range list {
			if Same(a, b) != (i == j) {
				t.Errorf("Same(%v, %v) = %v", a, b, i != j)
			}
		}
	}
	for rule, m := range invalidMatrices() {
		if !Same(m, apart(m)) {
			t.Errorf("%s: not identical to a copy", rule)
		}
	}
	for _, m := range validMatrices() {
		if !Same(m, apart(m)) {
			t.Errorf("%v is not identical to a copy", m)
		}
	}
}

// apart is a copy of m with room behind each slice, and with empty ones in
// place of nil ones.
func apart(m [][]api.Iv) [][]api.Iv {
	c := make([][]api.Iv, 0, len(m)+2)
	for _, r := range m {
		b := make([]api.Iv, 0, len(r)+2)
		for _, a := range r {
			lo := append(make([]uint64, 0, len(a.Lo.W)+2), a.Lo.W...)
			hi := append(make([]uint64, 0, len(a.Hi.W)+2), a.Hi.W...)
			b = append(b, from(api.Num{Neg: a.Lo.Neg, Exp: a.Lo.Exp, W: lo}, api.Num{Neg: a.Hi.Neg, Exp: a.Hi.Exp, W: hi}))
		}
		c = append(c, b)
	}
	return c
}

// TestSetsAtEachPosition has matrices that differ at one position alone.
func TestSetsAtEachPosition(t *testing.T) {
	base := ints(0, 4)
	for _, x := range []struct {
		a            api.Iv
		below, above bool // a is a subset of base, base of a
	}{
		{ints(0, 4), true, true}, {ints(1, 3), true, false}, {ints(0, 3), true, false}, {ints(1, 4), true, false}, {ints(2, 2), true, false},
		{ints(-1, 5), false, true}, {ints(0, 5), false, true}, {ints(-1, 4), false, true},
		{ints(2, 5), false, false}, {ints(-1, 3), false, false}, {ints(4, 5), false, false}, {ints(5, 6), false, false}, {ints(-2, -1), false, false},
		{from(of(1, -maxExp), of(1, 2)), true, false}, {from(api.Num{}, wide(maxBits, 3-maxBits)), false, true},
	} {
		positions(func(n, i, j int) {
			b := filled(n, base)
			a := but(b, i, j, x.a)
			if In(a, b) != x.below || In(b, a) != x.above || Same(a, b) != equalIv(x.a, base) || Same(b, a) != equalIv(x.a, base) {
				t.Errorf("%v and %v: In %v, %v, Same %v", a, b, In(a, b), In(b, a), Same(a, b))
			}
		})
	}
}

// TestInShapes: matrices of different sizes are in none of each other, and
// those that are not valid in none at all.
func TestInShapes(t *testing.T) {
	everything := from(minus(full(maxBits, maxExp)), full(maxBits, maxExp))
	for n := 1; n <= api.MaxDim; n++ {
		for k := 1; k <= api.MaxDim; k++ {
			if In(filled(n, ints(0, 0)), filled(k, everything)) != (n == k) {
				t.Errorf("In of %d rows and %d is %v", n, k, n != k)
			}
		}
	}
	for rule, m := range invalidMatrices() {
		if In(m, m) || In(m, apart(m)) {
			t.Errorf("%s: in itself", rule)
		}
		for n := 1; n <= api.MaxDim; n++ {
			if In(m, filled(n, everything)) || In(filled(n, ints(0, 0)), m) {
				t.Errorf("%s: In with %d rows", rule, n)
			}
		}
	}
}
