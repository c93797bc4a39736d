package series

import (
	"iter"

	"fathomline/api"
	"fathomline/iv"
)

// monomial returns the coefficients 0 to k of m applied to the series xs.
func monomial(m api.Mono, xs [][]api.Iv, k, prec int) ([]api.Iv, api.Errno) {
	s := make([]api.Iv, k+1)
	s[0] = iv.Of(m.C)
	for i, e := range m.E {
		for range e {
			var err api.Errno
			if s, err = product(s, xs[i], k, prec); err != api.OK {
				return nil, err
			}
		}
	}
	return s, api.OK
}

// product returns the coefficients 0 to k of the product of a and b.
func product(a, b []api.Iv, k, prec int) ([]api.Iv, api.Errno) {
	list := make([]api.Iv, 0, k+1)
	for c, err := range coefs(a, b, k, prec) {
		// The result may need none but the last one, and yet has the error of
		// any of them.
		if err != api.OK {
			return nil, err
		}
		list = append(list, c)
	}
	return list, api.OK
}

// coefs produces the coefficients 0 to k of the product of a and b, in order.
func coefs(a, b []api.Iv, k, prec int) iter.Seq2[api.Iv, api.Errno] {
	return func(yield func(api.Iv, api.Errno) bool) {
		for i := range k + 1 {
			if !yield(coef(a, b, i, prec)) {
				return
			}
		}
	}
}

// coef returns coefficient k of the product of a and b, which both have it.
func coef(a, b []api.Iv, k, prec int) (api.Iv, api.Errno) {
	sum, err := iv.Mul(a[0], b[k], prec)
	if err != api.OK {
		return api.Iv{}, err
	}
	for i := 1; i <= k; i++ {
		next, err := iv.Mul(a[i], b[k-i], prec)
		if err != api.OK {
			return api.Iv{}, err
		}
		if sum, err = iv.Add(sum, next, prec); err != api.OK {
			return api.Iv{}, err
		}
	}
	return sum, api.OK
}
