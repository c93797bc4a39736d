package nat

import (
	"math"
	"slices"
	"testing"

	"fathomline/api"
)

const all = math.MaxUint64

// loose is a with zero words at its end.
func loose(a []uint64) []uint64 {
	return append(slices.Clone(a), 0, 0, 0)
}

// ones is 2^(64n) - 1.
func ones(n int) []uint64 {
	return slices.Repeat([]uint64{all}, n)
}

// power is 2^n.
func power(n int) []uint64 {
	a := make([]uint64, n/64+1)
	a[n/64] = 1 << (n % 64)
	return a
}

func isZero(a []uint64) bool { return len(a) == 0 }

// P1.1

func TestRight(t *testing.T) {
	for _, a := range [][]uint64{nil, {}, {1}, {all}, {0, 1}, {0, 0, 1 << 63}} {
		if !Right(a) {
			t.Errorf("Right(%v) is false", a)
		}
		if Right(loose(a)) {
			t.Errorf("Right(%v) is true", loose(a))
		}
	}
	if Right([]uint64{0}) {
		t.Error("the number 0 has no words")
	}
}

func TestTrim(t *testing.T) {
	for _, a := range [][]uint64{nil, {}, {1}, {all}, {0, 1}, {5, 0, 0, 7}} {
		for _, words := range [][]uint64{a, append(slices.Clone(a), 0), loose(a)} {
			if got := Trim(words); !slices.Equal(got, a) {
				t.Errorf("Trim(%v) = %v", words, got)
			}
		}
	}
}

func TestBitsOfPowers(t *testing.T) {
	for n := range 300 {
		a := power(n)
		if Bits(a) != n+1 || Bits(loose(a)) != n+1 {
			t.Errorf("Bits(2^%d) = %d", n, Bits(a))
		}
		below, _ := Sub(a, []uint64{1})
		if Bits(below) != n || Bits(loose(below)) != n {
			t.Errorf("Bits(2^%d - 1) = %d", n, Bits(below))
		}
	}
	for _, zero := range [][]uint64{nil, {}, {0}, {0, 0, 0}} {
		if Bits(zero) != 0 {
			t.Errorf("Bits(%v) = %d", zero, Bits(zero))
		}
	}
}

func TestZeros(t *testing.T) {
	for n := range 300 {
		a := power(n)
		odd := Shift(Add(power(70), []uint64{1}), n)
		if Zeros(a) != n || Zeros(loose(a)) != n || Zeros(odd) != n {
			t.Errorf("Zeros of 2^%d times an odd number: %d, %d", n, Zeros(a), Zeros(odd))
		}
	}
	for _, zero := range [][]uint64{nil, {}, {0}, {0, 0, 0}} {
		if Zeros(zero) != 0 {
			t.Errorf("Zeros(%v) = %d", zero, Zeros(zero))
		}
	}
}

// P1.2

func TestCmp(t *testing.T) {
	rising := [][]uint64{nil, {1}, {2}, {all}, {0, 1}, {1, 1}, {all, 1}, {0, 2}, ones(2), {0, 0, 1}, {all, 0, 1}, {0, all, 1}}
	for i, a := range rising {
		for k, b := range rising {
			want := max(-1, min(1, i-k))
			if Cmp(a, b) != want || Cmp(loose(a), b) != want || Cmp(a, loose(b)) != want {
				t.Errorf("Cmp(%v, %v) is not %d", a, b, want)
			}
		}
	}
}

func TestAdd(t *testing.T) {
	for _, x := range []struct{ a, b, want []uint64 }{
		{nil, nil, nil},
		{[]uint64{0}, []uint64{0, 0}, nil},
		{nil, []uint64{7}, []uint64{7}},
		{[]uint64{all}, []uint64{1}, []uint64{0, 1}},
		{[]uint64{all}, []uint64{all}, []uint64{all - 1, 1}},
		{[]uint64{all, all, 4}, []uint64{1}, []uint64{0, 0, 5}},
		{[]uint64{all, 3, all}, []uint64{1}, []uint64{0, 4, all}},
		{ones(3), ones(3), []uint64{all - 1, all, all, 1}},
	} {
		if got := Add(x.a, x.b); !slices.Equal(got, x.want) {
			t.Errorf("Add(%v, %v) = %v", x.a, x.b, got)
		}
		if got := Add(loose(x.b), x.a); !slices.Equal(got, x.want) {
			t.Errorf("Add(%v, %v) = %v", loose(x.b), x.a, got)
		}
	}
}

func TestSub(t *testing.T) {
	for _, x := range []struct{ a, b, want []uint64 }{
		{nil, nil, nil},
		{[]uint64{0}, []uint64{0, 0}, nil},
		{[]uint64{7}, nil, []uint64{7}},
		{[]uint64{7}, []uint64{7}, nil},
		{[]uint64{0, 1}, []uint64{1}, []uint64{all}},
		{[]uint64{0, 0, 5}, []uint64{1}, []uint64{all, all, 4}},
		{[]uint64{0, 4, all}, []uint64{1}, []uint64{all, 3, all}},
		{[]uint64{5, 0, 1}, []uint64{5, 0, 1}, nil},
		{[]uint64{0, 0, 1}, []uint64{0, all}, []uint64{0, 1}},
	} {
		if got, ok := Sub(x.a, x.b); !ok || !slices.Equal(got, x.want) {
			t.Errorf("Sub(%v, %v) = %v, %v", x.a, x.b, got, ok)
		}
		if got, ok := Sub(loose(x.a), loose(x.b)); !ok || !slices.Equal(got, x.want) {
			t.Errorf("Sub of loose %v, %v = %v, %v", x.a, x.b, got, ok)
		}
	}
}

func TestSubBelowZero(t *testing.T) {
	for _, x := range []struct{ a, b []uint64 }{
		{nil, []uint64{1}},
		{[]uint64{5}, []uint64{6}},
		{[]uint64{all}, []uint64{0, 1}},
		{[]uint64{all, 1}, []uint64{0, 2}},
		{[]uint64{4, 9}, []uint64{5, 9}},
		{[]uint64{5, 0, 0, 0}, []uint64{6}},
	} {
		if got, ok := Sub(x.a, x.b); ok || !isZero(got) {
			t.Errorf("Sub(%v, %v) = %v, %v", x.a, x.b, got, ok)
		}
	}
}

func TestCarryOverManyWords(t *testing.T) {
	for _, n := range []int{1, 2, 63, 64, 1000} {
		one, top := []uint64{1}, power(64*n)
		if got := Add(ones(n), one); !slices.Equal(got, top) {
			t.Errorf("Add of 1 to %d words of ones is wrong", n)
		}
		if got := Add(one, ones(n)); !slices.Equal(got, top) {
			t.Errorf("Add of %d words of ones to 1 is wrong", n)
		}
		if got, ok := Sub(top, one); !ok || !slices.Equal(got, ones(n)) {
			t.Errorf("Sub of 1 from 2^(64*%d) is wrong", n)
		}
		square := Mul(ones(n), ones(n))
		low, _ := Sub(power(128*n), power(64*n+1))
		if want := Add(low, one); !slices.Equal(square, want) {
			t.Errorf("Mul of %d words of ones by themselves is wrong", n)
		}
	}
}

func TestMul(t *testing.T) {
	for _, x := range []struct{ a, b, want []uint64 }{
		{nil, nil, nil},
		{[]uint64{0, 0}, []uint64{3, 4}, nil},
		{nil, ones(5), nil},
		{[]uint64{1}, ones(5), ones(5)},
		{[]uint64{6}, []uint64{7}, []uint64{42}},
		{[]uint64{all}, []uint64{all}, []uint64{1, all - 1}},
		{[]uint64{0, 0, 3}, []uint64{0, 5}, []uint64{0, 0, 0, 15}},
		{[]uint64{1, 1}, []uint64{all, all}, []uint64{all, all - 1, 0, 1}},
	} {
		if got := Mul(x.a, x.b); !slices.Equal(got, x.want) {
			t.Errorf("Mul(%v, %v) = %v", x.a, x.b, got)
		}
		if got := Mul(loose(x.b), loose(x.a)); !slices.Equal(got, x.want) {
			t.Errorf("Mul of loose %v, %v = %v", x.b, x.a, got)
		}
	}
}

func TestDiv(t *testing.T) {
	for _, x := range []struct{ a, b, quotient, rest []uint64 }{
		{nil, []uint64{1}, nil, nil},
		{[]uint64{6}, []uint64{7}, nil, []uint64{6}},
		{[]uint64{7}, []uint64{7}, []uint64{1}, nil},
		{[]uint64{100}, []uint64{7}, []uint64{14}, []uint64{2}},
		{ones(3), []uint64{1}, ones(3), nil},
		{ones(3), []uint64{all}, []uint64{1, 1, 1}, nil},
		{[]uint64{4, 9}, []uint64{5, 9}, nil, []uint64{4, 9}},
		{[]uint64{4, 9}, []uint64{0, 0, 1}, nil, []uint64{4, 9}},
		// The highest words are equal, so the first guess is the greatest word.
		{[]uint64{0, 0, 1 << 63}, []uint64{all, 1 << 63}, []uint64{all - 1}, []uint64{all - 1, 2}},
		// The first guess is too great by 1, then by 2.
		{[]uint64{0, 0, 1}, []uint64{all, 1 << 63}, []uint64{1}, []uint64{1, 1<<63 - 1}},
		{[]uint64{0, 0, 1<<63 - 1}, []uint64{all, 1 << 63}, []uint64{all - 3}, []uint64{all - 3, 4}},
	} {
		quotient, rest, ok := Div(x.a, x.b)
		if !ok || !slices.Equal(quotient, x.quotient) || !slices.Equal(rest, x.rest) {
			t.Errorf("Div(%v, %v) = %v, %v, %v", x.a, x.b, quotient, rest, ok)
		}
		quotient, rest, ok = Div(loose(x.a), loose(x.b))
		if !ok || !slices.Equal(quotient, x.quotient) || !slices.Equal(rest, x.rest) {
			t.Errorf("Div of loose %v, %v = %v, %v, %v", x.a, x.b, quotient, rest, ok)
		}
	}
}

func TestDivByZero(t *testing.T) {
	for _, a := range [][]uint64{nil, {0}, {5}, ones(4)} {
		for _, b := range [][]uint64{nil, {}, {0}, {0, 0, 0}} {
			if quotient, rest, ok := Div(a, b); ok || !isZero(quotient) || !isZero(rest) {
				t.Errorf("Div(%v, %v) = %v, %v, %v", a, b, quotient, rest, ok)
			}
		}
	}
}

func TestShift(t *testing.T) {
	for _, x := range []struct {
		a    []uint64
		n    int
		want []uint64
	}{
		{nil, 0, nil},
		{nil, 64, nil},
		{[]uint64{0, 0}, 3, nil},
		{[]uint64{0, 0}, -3, nil},
		{[]uint64{5}, 0, []uint64{5}},
		{[]uint64{5}, -1, []uint64{2}},
		{[]uint64{5}, -3, nil},
		{[]uint64{5}, 64, []uint64{0, 5}},
		{[]uint64{all}, 1, []uint64{all - 1, 1}},
		{[]uint64{1}, 63, []uint64{1 << 63}},
		{ones(2), 63, []uint64{1 << 63, all, all >> 1}},
		{ones(3), -1, []uint64{all, all, all >> 1}},
		{ones(3), -127, []uint64{all, 1}},
		{ones(3), -128, []uint64{all}},
		{ones(3), -191, []uint64{1}},
		{ones(3), -192, nil},
		{ones(3), -193, nil},
	} {
		if got := Shift(x.a, x.n); !slices.Equal(got, x.want) {
			t.Errorf("Shift(%v, %d) = %v", x.a, x.n, got)
		}
		if got := Shift(loose(x.a), x.n); !slices.Equal(got, x.want) {
			t.Errorf("Shift(%v, %d) = %v", loose(x.a), x.n, got)
		}
	}
}

func TestShiftBounds(t *testing.T) {
	for _, n := range []int{api.MaxShift, api.MaxShift + 1, api.MaxShift + 64, math.MaxInt} {
		if got := Shift([]uint64{3}, n); Bits(got) != api.MaxShift+2 || Zeros(got) != api.MaxShift {
			t.Errorf("Shift(3, %d) has %d bits", n, Bits(got))
		}
		if got := Shift(nil, n); !isZero(got) {
			t.Errorf("Shift(0, %d) is not 0", n)
		}
	}
	if got := Shift([]uint64{3}, api.MaxShift-1); Zeros(got) != api.MaxShift-1 {
		t.Errorf("Shift(3, MaxShift - 1) has %d zeros", Zeros(got))
	}
	// Only a number of more than MaxShift bits tells the lower bound from one further down.
	great := Add(power(api.MaxShift+70), ones(3))
	for _, n := range []int{-api.MaxShift, -api.MaxShift - 1, -api.MaxShift - 64, math.MinInt + 1, math.MinInt} {
		if got := Shift(great, n); !slices.Equal(got, power(70)) {
			t.Errorf("Shift of 2^(MaxShift + 70) and less by %d = %v", n, got)
		}
		if got := Shift([]uint64{3}, n); !isZero(got) {
			t.Errorf("Shift(3, %d) = %v", n, got)
		}
	}
	if got := Shift(great, -api.MaxShift+1); !slices.Equal(got, power(71)) {
		t.Errorf("Shift by -MaxShift + 1 = %v", got)
	}
}

func TestExamples(t *testing.T) {
	if got := Add([]uint64{all}, []uint64{1}); !slices.Equal(got, []uint64{0, 1}) {
		t.Errorf("Add([2^64 - 1], [1]) = %v", got)
	}
	if got := Shift([]uint64{5}, -1); !slices.Equal(got, []uint64{2}) {
		t.Errorf("Shift([5], -1) = %v", got)
	}
}
