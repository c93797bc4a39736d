package iv

import (
	"fathomline/api"
	"fathomline/num"
	"fathomline/round"
)

// Mid returns half of Lo + Hi, rounded down to prec bits, or Lo if this is
// less than Lo.
func Mid(a api.Iv, prec int) (api.Num, api.Errno) {
	if !right(prec, a) {
		return api.Num{}, api.ErrForm
	}
	shift := room(a)
	lo, hi := lower(a.Lo, shift), lower(a.Hi, shift)
	sum, _ := round.Add(lo, hi, prec, false)
	mid, err := num.Scale(sum, -1)
	if err != api.OK {
		// The sum ends in the lowest place of all, so it was not rounded, and
		// its half is not less than Lo.
		return api.Num{}, err
	}
	if num.Cmp(mid, lo) < 0 {
		return clone(a.Lo), api.OK
	}
	return num.Scale(mid, shift)
}

// room returns by how many places the ends of a are lowered while their sum is
// formed, so that a sum above the greatest numbers can be halved and compared.
func room(a api.Iv) int64 {
	limit, _ := num.Scale(num.Int(1), far)
	if num.Cmp(Mag(a), limit) < 0 {
		return 0
	}
	return far
}

// lower returns x times 2^-shift. If no valid number has this value, x itself
// serves: the other end then lies so far above it that only the sign of x
// tells in the rounded sum.
func lower(x api.Num, shift int64) api.Num {
	y, err := num.Scale(x, -shift)
	if err != api.OK {
		return x
	}
	return y
}

// Rad returns the greatest distance of a number in a from Mid, rounded up to
// prec bits.
func Rad(a api.Iv, prec int) (api.Num, api.Errno) {
	mid, err := Mid(a, prec)
	if err != api.OK {
		return api.Num{}, err
	}
	// Mid is not above the exact half, so Hi is at least as far from it as Lo.
	return round.Sub(a.Hi, mid, prec, true)
}

// Wide returns Hi - Lo, rounded up to prec bits.
func Wide(a api.Iv, prec int) (api.Num, api.Errno) {
	if !right(prec, a) {
		return api.Num{}, api.ErrForm
	}
	return round.Sub(a.Hi, a.Lo, prec, true)
}
