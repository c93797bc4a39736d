package iv

import (
	"fathomline/api"
	"fathomline/num"
	"fathomline/round"
)

// far is more places than a number or a product of two has bits, and few
// enough that a number of ordinary size may be shifted by so many.
const far = api.MaxExp / 2

// Add returns the interval of all sums.
func Add(a, b api.Iv, prec int) (api.Iv, api.Errno) {
	if !right(prec, a, b) {
		return api.Iv{}, api.ErrForm
	}
	return outward(func(up bool) (api.Num, api.Errno) {
		return round.Add(side(a, up), side(b, up), prec, up)
	})
}

// Sub returns the interval of all differences.
func Sub(a, b api.Iv, prec int) (api.Iv, api.Errno) {
	if !right(prec, a, b) {
		return api.Iv{}, api.ErrForm
	}
	return outward(func(up bool) (api.Num, api.Errno) {
		return round.Sub(side(a, up), side(b, !up), prec, up)
	})
}

// Mul returns the interval of all products.
func Mul(a, b api.Iv, prec int) (api.Iv, api.Errno) {
	if !right(prec, a, b) {
		return api.Iv{}, api.ErrForm
	}
	return outward(func(up bool) (api.Num, api.Errno) {
		end := toward(up)
		switch {
		case !straddles(a): // one end of b is the best for all of a
			y := end(b, a.Lo)
			return round.Mul(end(a, y), y, prec, up)
		case !straddles(b):
			x := end(a, b.Lo)
			return round.Mul(x, end(b, x), prec, up)
		}
		x := multiply(a.Lo, end(b, a.Lo), prec, up)
		y := multiply(a.Hi, end(b, a.Hi), prec, up)
		return larger(x, y).number()
	})
}

// Div returns the interval of all quotients, or ErrZero if 0 is in b.
func Div(a, b api.Iv, prec int) (api.Iv, api.Errno) {
	if !right(prec, a, b) {
		return api.Iv{}, api.ErrForm
	}
	if Has(b, api.Num{}) {
		return api.Iv{}, api.ErrZero
	}
	return outward(func(up bool) (api.Num, api.Errno) {
		// All of b has one sign, on which the end of a hangs. A greater
		// divisor is a lesser factor, so the end of b is the opposite one.
		x := toward(up)(a, b.Lo)
		return round.Div(x, toward(!up)(b, x), prec, up)
	})
}

// Pow returns the interval of all powers x^k of the numbers x in a.
func Pow(a api.Iv, k, prec int) (api.Iv, api.Errno) {
	if !right(prec, a) || k < 0 || k > api.MaxDeg {
		return api.Iv{}, api.ErrForm
	}
	if k%2 == 0 {
		a = sizes(a)
	}
	return outward(func(up bool) (api.Num, api.Errno) {
		return power(side(a, up), k, prec, up)
	})
}

// right reports whether the intervals are valid and prec is in range.
func right(prec int, intervals ...api.Iv) bool {
	for _, a := range intervals {
		if !Right(a) {
			return false
		}
	}
	return api.MinPrec <= prec && prec <= api.MaxPrec
}

// outward returns the interval between the two ends that a closure selects:
// the least result, rounded down, and the greatest one, rounded up.
func outward(end func(up bool) (api.Num, api.Errno)) (api.Iv, api.Errno) {
	lo, err := end(false)
	if err != api.OK {
		return api.Iv{}, err
	}
	hi, err := end(true)
	if err != api.OK {
		return api.Iv{}, err
	}
	return api.Iv{Lo: lo, Hi: hi}, api.OK
}

func side(a api.Iv, high bool) api.Num {
	if high {
		return a.Hi
	}
	return a.Lo
}

// toward returns a selection: the end of a whose product with the factor is
// the greatest if up is true, and the least otherwise.
func toward(up bool) func(a api.Iv, factor api.Num) api.Num {
	return func(a api.Iv, factor api.Num) api.Num {
		return side(a, up != (num.Sign(factor) < 0))
	}
}

// straddles reports whether a has numbers of both signs.
func straddles(a api.Iv) bool {
	return num.Sign(a.Lo) < 0 && num.Sign(a.Hi) > 0
}

// sizes returns the interval of the absolute values of the numbers in a.
func sizes(a api.Iv) api.Iv {
	least := lesser(num.Abs(a.Lo), num.Abs(a.Hi))
	if straddles(a) {
		least = api.Num{}
	}
	return api.Iv{Lo: least, Hi: Mag(a)}
}

// scaled is x times 2^exp, which need not be within the limits of numbers.
type scaled struct {
	x   api.Num
	exp int64
}

// multiply returns x times y rounded to prec bits. Both are taken as integers
// first, of which the rounded product always is a number.
func multiply(x, y api.Num, prec int, up bool) scaled {
	exp := x.Exp + y.Exp
	x.Exp, y.Exp = 0, 0
	rounded, _ := round.Mul(x, y, prec, up)
	return scaled{rounded, exp}
}

// larger returns the one with the greater absolute value of two rounded
// products of integers other than 0. That they are rounded does no harm:
// rounding keeps their order or makes them equal.
func larger(v, w scaled) scaled {
	// If the exponents are far apart, they alone decide.
	shift := min(max(v.exp-w.exp, -far), far)
	x, _ := num.Scale(v.x, shift)
	if num.Cmp(num.Abs(x), num.Abs(w.x)) < 0 {
		return w
	}
	return v
}

// number returns the valid number with the value, or ErrOver.
func (v scaled) number() (api.Num, api.Errno) {
	return num.Scale(v.x, v.exp)
}
