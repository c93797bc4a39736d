package num

import (
	"math"
	"testing"

	"fathomline/api"
)

// P2.3

type operation func(a, b api.Num) (api.Num, api.Errno)

func operations() map[string]operation {
	return map[string]operation{"Add": Add, "Sub": Sub, "Mul": Mul}
}

func TestInvalidOperands(t *testing.T) {
	// The last one makes a result that is no valid number: ErrForm comes first.
	others := append(rising(), full(maxBits, api.MaxExp))
	for rule, x := range invalid() {
		for name, call := range operations() {
			for _, y := range others {
				if got, err := call(x, y); err != api.ErrForm || !isZero(got) {
					t.Errorf("%s: %s first: %v, %d", name, rule, got, err)
				}
				if got, err := call(y, x); err != api.ErrForm || !isZero(got) {
					t.Errorf("%s: %s second: %v, %d", name, rule, got, err)
				}
			}
			if got, err := call(x, x); err != api.ErrForm || !isZero(got) {
				t.Errorf("%s: %s twice: %v, %d", name, rule, got, err)
			}
		}
		for _, k := range []int64{0, 1, -1, math.MaxInt64, math.MinInt64} {
			if got, err := Scale(x, k); err != api.ErrForm || !isZero(got) {
				t.Errorf("Scale by %d: %s: %v, %d", k, rule, got, err)
			}
		}
	}
}

func TestCalc(t *testing.T) {
	for _, x := range []struct{ a, b, sum, difference, product api.Num }{
		{of(3, 0), of(5, 0), of(1, 3), of(-1, 1), of(15, 0)},
		{of(-3, 0), of(5, 0), of(1, 1), of(-1, 3), of(-15, 0)},
		{of(1, 0), of(1, -3), of(9, -3), of(7, -3), of(1, -3)},
		{of(-3, 2), of(3, 2), api.Num{}, of(-3, 3), of(-9, 4)},
		{of(-3, 2), of(-3, 2), of(-3, 3), api.Num{}, of(9, 4)},
		{of(7, 5), api.Num{}, of(7, 5), of(7, 5), api.Num{}},
		{api.Num{}, of(7, 5), of(7, 5), of(-7, 5), api.Num{}},
		{of(-7, -5), api.Num{}, of(-7, -5), of(-7, -5), api.Num{}},
		{api.Num{}, of(-7, -5), of(-7, -5), of(7, -5), api.Num{}},
		{api.Num{}, api.Num{}, api.Num{}, api.Num{}, api.Num{}},
		{of(1, 64), of(-1, 0), words(0, all), words(0, 1, 1), of(-1, 64)},
		{of(1, 70), of(1, 6), words(6, 1, 1), words(6, all), of(1, 76)},
		// The words lose low zero bits: a carry up to the top, words that become 0.
		{full(640, 0), of(1, 0), of(1, 640), full(639, 1), full(640, 0)},
		{words(0, 1, 0, 5), words(0, 1, 0, 3), words(1, 1, 0, 4), of(1, 129), words(0, 1, 0, 8, 0, 15)},
	} {
		for name, want := range map[string]api.Num{"Add": x.sum, "Sub": x.difference, "Mul": x.product} {
			if got, err := operations()[name](x.a, x.b); err != api.OK || !equal(got, want) {
				t.Errorf("%s(%v, %v) = %v, %d", name, x.a, x.b, got, err)
			}
		}
	}
}

func TestBiggestResults(t *testing.T) {
	for _, x := range []struct {
		name string
		a, b api.Num
		want api.Num
	}{
		{"Add", of(1, maxBits-1), of(1, 0), wide(maxBits, 0)},
		{"Add", of(-1, 0), of(-1, maxBits-1), minus(wide(maxBits, 0))},
		{"Add", full(maxBits, 9), of(1, 9), of(1, maxBits+9)},
		{"Add", full(maxBits, 0), full(maxBits, 0), full(maxBits, 1)},
		{"Add", wide(maxBits, api.MaxExp), minus(wide(maxBits, api.MaxExp)), api.Num{}},
		{"Add", of(1, api.MaxExp), of(1, api.MaxExp-1), of(3, api.MaxExp-1)},
		{"Add", of(1, -api.MaxExp), of(1, -api.MaxExp), of(1, 1-api.MaxExp)},
		{"Sub", of(1, maxBits), of(1, 0), full(maxBits, 0)},
		{"Sub", of(1, 0), of(1, maxBits), minus(full(maxBits, 0))},
		{"Sub", of(3, -api.MaxExp), of(1, -api.MaxExp), of(1, 1-api.MaxExp)},
		{"Sub", wide(maxBits, 0), of(1, maxBits-1), of(1, 0)},
		{"Mul", full(maxBits/2, 0), wide(maxBits/2+1, 0), full(maxBits, 0)},
		{"Mul", full(maxBits, 7), of(1, -20), full(maxBits, -13)},
		{"Mul", of(-3, api.MaxExp), of(5, -api.MaxExp), of(-15, 0)},
		{"Mul", of(3, api.MaxExp-1), of(3, 1), of(9, api.MaxExp)},
		{"Mul", of(3, 1-api.MaxExp), of(-3, -1), of(-9, -api.MaxExp)},
	} {
		if got, err := operations()[x.name](x.a, x.b); err != api.OK || !equal(got, x.want) {
			t.Errorf("%s(%v, %v) = %v, %d", x.name, x.a, x.b, got, err)
		}
	}
}

func TestOver(t *testing.T) {
	for _, x := range []struct {
		name string
		a, b api.Num
	}{
		{"Add", of(1, maxBits), of(1, 0)},                   // one bit too many
		{"Add", of(1, 0), of(-1, maxBits+1)},                // likewise
		{"Add", full(maxBits, 0), of(1, 1)},                 // likewise, by a carry
		{"Add", full(maxBits, 0), full(maxBits-1, 1)},       // likewise
		{"Add", of(1, api.MaxExp), of(1, -api.MaxExp)},      // as far apart as can be
		{"Add", of(1, -api.MaxExp), of(-1, api.MaxExp)},     // likewise
		{"Add", of(1, api.MaxExp), of(1, api.MaxExp)},       // an exponent too great
		{"Add", of(3, api.MaxExp), of(-1, api.MaxExp)},      // likewise
		{"Add", of(1, 0), of(1, api.MaxExp)},                // far apart
		{"Add", of(1, 0), of(1, -api.MaxExp)},               // likewise
		{"Sub", of(1, maxBits+1), of(1, 0)},                 // one bit too many
		{"Sub", of(1, maxBits), of(-1, 0)},                  // likewise
		{"Sub", of(1, -api.MaxExp), of(1, api.MaxExp)},      // as far apart as can be
		{"Sub", of(3, api.MaxExp), of(1, api.MaxExp)},       // an exponent too great
		{"Mul", full(maxBits, 0), of(3, 0)},                 // bits too many
		{"Mul", full(maxBits, 0), full(maxBits, 0)},         // likewise
		{"Mul", wide(maxBits/2+1, 0), wide(maxBits/2+1, 0)}, // one bit too many
		{"Mul", of(3, api.MaxExp), of(3, 1)},                // an exponent too great
		{"Mul", of(1, api.MaxExp), of(-1, api.MaxExp)},      // likewise
		{"Mul", of(3, -api.MaxExp), of(3, -1)},              // an exponent too small
		{"Mul", of(-1, -api.MaxExp), of(-1, -api.MaxExp)},   // likewise
	} {
		if got, err := operations()[x.name](x.a, x.b); err != api.ErrOver || !isZero(got) {
			t.Errorf("%s(%v, %v) = %v, %d", x.name, x.a, x.b, got, err)
		}
	}
}

// TestZeroOperands has 0 beside the greatest and the least numbers too.
func TestZeroOperands(t *testing.T) {
	var zero api.Num
	for _, x := range rising() {
		minusX := Neg(x)
		for _, y := range []struct {
			name string
			a, b api.Num
			want api.Num
		}{
			{"Add", x, zero, x}, {"Add", zero, x, x}, {"Add", x, minusX, zero},
			{"Sub", x, zero, x}, {"Sub", zero, x, minusX}, {"Sub", x, x, zero},
			{"Mul", x, zero, zero}, {"Mul", zero, x, zero}, {"Mul", x, Int(1), x}, {"Mul", Int(-1), x, minusX},
		} {
			if got, err := operations()[y.name](y.a, y.b); err != api.OK || !equal(got, y.want) {
				t.Errorf("%s(%v, %v) = %v, %d", y.name, y.a, y.b, got, err)
			}
		}
	}
}

func TestScale(t *testing.T) {
	for _, x := range []struct {
		x    api.Num
		k    int64
		want api.Num
	}{
		{of(3, 5), 0, of(3, 5)},
		{of(3, 5), -7, of(3, -2)},
		{of(-3, -5), 7, of(-3, 2)},
		{wide(maxBits, 5), 1000, wide(maxBits, 1005)},
		{of(3, 0), api.MaxExp, of(3, api.MaxExp)},
		{of(3, 0), -api.MaxExp, of(3, -api.MaxExp)},
		{of(-3, -api.MaxExp), 2 * api.MaxExp, of(-3, api.MaxExp)},
		{full(maxBits, api.MaxExp), -2 * api.MaxExp, full(maxBits, -api.MaxExp)},
	} {
		if got, err := Scale(x.x, x.k); err != api.OK || !equal(got, x.want) {
			t.Errorf("Scale(%v, %d) = %v, %d", x.x, x.k, got, err)
		}
	}
	for _, k := range []int64{0, 1, -1, api.MaxExp + 1, -api.MaxExp - 1, math.MaxInt64, math.MinInt64} {
		if got, err := Scale(api.Num{}, k); err != api.OK || !isZero(got) {
			t.Errorf("Scale(0, %d) = %v, %d", k, got, err)
		}
	}
}

func TestScaleOver(t *testing.T) {
	for _, exp := range []int64{-api.MaxExp, -1, 0, 1, api.MaxExp} {
		up, down := api.MaxExp-exp+1, -api.MaxExp-exp-1
		for _, k := range []int64{up, up + 1, up + 64, 2*api.MaxExp + 1, 1 << 32, math.MaxInt64 - 1, math.MaxInt64, down, down - 1, down - 64, -2*api.MaxExp - 1, -1 << 32, math.MinInt64 + 1, math.MinInt64} {
			for _, x := range []api.Num{of(1, exp), of(-3, exp), full(maxBits, exp)} {
				if got, err := Scale(x, k); err != api.ErrOver || !isZero(got) {
					t.Errorf("Scale(%v, %d) = %v, %d", x, k, got, err)
				}
			}
		}
		for _, k := range []int64{up - 1, down + 1} {
			if got, err := Scale(of(-3, exp), k); err != api.OK || !equal(got, of(-3, exp+k)) {
				t.Errorf("Scale of -3 times 2^%d by %d: %v, %d", exp, k, got, err)
			}
		}
	}
}
