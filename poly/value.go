package poly

import (
	"fathomline/api"
	"fathomline/iv"
	"fathomline/num"
)

// At returns the value of p at x.
func At(p []api.Mono, x []api.Num) (api.Num, api.Errno) {
	if !Right(p, len(x)) || !every(x, num.Right) {
		return api.Num{}, api.ErrForm
	}
	parts := make([]api.Num, len(p))
	for i, m := range p {
		parts[i] = value(m, x)
	}
	return total(parts)
}

// value returns the value of m at x, which need not be a valid number.
func value(m api.Mono, x []api.Num) api.Num {
	v := m.C
	for i, k := range m.E {
		for range k {
			v = product(v, x[i])
		}
	}
	return v
}

// Range returns an interval that contains the values of p at all points of b.
func Range(p []api.Mono, b []api.Iv, prec int) (api.Iv, api.Errno) {
	if !Right(p, len(b)) || !every(b, iv.Right) || prec < api.MinPrec || prec > api.MaxPrec {
		return api.Iv{}, api.ErrForm
	}
	var t api.Iv
	for _, m := range p {
		v, err := bounds(m, b, prec)
		if err != api.OK {
			return api.Iv{}, err
		}
		if t, err = iv.Add(t, v, prec); err != api.OK {
			return api.Iv{}, err
		}
	}
	return t, api.OK
}

// bounds returns an interval that contains the values of m at all points of b.
func bounds(m api.Mono, b []api.Iv, prec int) (api.Iv, api.Errno) {
	v := iv.Of(m.C)
	for i, k := range m.E {
		if k == 0 {
			continue // a product with 1 would still be rounded
		}
		power, err := iv.Pow(b[i], k, prec)
		if err != api.OK {
			return api.Iv{}, err
		}
		if v, err = iv.Mul(v, power, prec); err != api.OK {
			return api.Iv{}, err
		}
	}
	return v, api.OK
}

func every[T any](list []T, right func(x T) bool) bool {
	for _, x := range list {
		if !right(x) {
			return false
		}
	}
	return true
}
