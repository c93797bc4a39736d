package poly

import (
	"slices"

	"fathomline/api"
	"fathomline/num"
)

// exponents are those of a monomial, with zeros behind them. As an array they
// can be the key of a map.
type exponents [api.MaxDim]int

// Make returns the sum of monomials of n variables as a polynomial.
func Make(l []api.Mono, n int) ([]api.Mono, api.Errno) {
	if !isDim(n) {
		return nil, api.ErrForm
	}
	for _, m := range l {
		if !isMono(m, n) {
			return nil, api.ErrForm
		}
	}
	keys, parts := grouped(l)
	slices.SortFunc(keys, func(a, b exponents) int { return slices.Compare(b[:], a[:]) })
	var p []api.Mono
	for _, key := range keys {
		c, err := total(parts[key])
		if err != api.OK {
			return nil, err
		}
		if num.Sign(c) != 0 {
			p = append(p, api.Mono{C: c, E: slices.Clone(key[:n])})
		}
	}
	// Only now: a sum that fails comes ahead of too many monomials.
	if len(p) > api.MaxTerms {
		return nil, api.ErrLong
	}
	return p, api.OK
}

// grouped returns all exponents that are in l, each once, and the coefficients
// that stand beside them.
func grouped(l []api.Mono) ([]exponents, map[exponents][]api.Num) {
	var keys []exponents
	parts := map[exponents][]api.Num{}
	for _, m := range l {
		var key exponents
		copy(key[:], m.E)
		if parts[key] == nil {
			keys = append(keys, key)
		}
		parts[key] = append(parts[key], m.C)
	}
	return keys, parts
}

// Add returns a + b.
func Add(a, b []api.Mono, n int) ([]api.Mono, api.Errno) {
	if !Right(a, n) || !Right(b, n) {
		return nil, api.ErrForm
	}
	return Make(slices.Concat(a, b), n)
}

// Mul returns a times b.
func Mul(a, b []api.Mono, n int) ([]api.Mono, api.Errno) {
	if !Right(a, n) || !Right(b, n) {
		return nil, api.ErrForm
	}
	// If one is empty, the other's degree alone is not above MaxDeg.
	if Degree(a)+Degree(b) > api.MaxDeg {
		return nil, api.ErrLong
	}
	var products []api.Mono
	for _, x := range a {
		for _, y := range b {
			c, err := num.Mul(x.C, y.C)
			if err != api.OK {
				return nil, err
			}
			products = append(products, api.Mono{C: c, E: sums(x.E, y.E)})
		}
	}
	return Make(products, n)
}

// sums returns the sums of the exponents of two monomials.
func sums(a, b []int) []int {
	e := slices.Clone(a)
	for i, k := range b {
		e[i] += k
	}
	return e
}

// Diff returns the partial derivative of p with respect to variable i.
func Diff(p []api.Mono, i, n int) ([]api.Mono, api.Errno) {
	if !Right(p, n) || i < 0 || i >= n {
		return nil, api.ErrForm
	}
	var d []api.Mono
	for _, m := range p {
		k := m.E[i]
		if k == 0 {
			continue
		}
		c, err := num.Mul(m.C, num.Int(int64(k)))
		if err != api.OK {
			return nil, err
		}
		// The exponents keep their order, since all of them lose 1 at i.
		e := slices.Clone(m.E)
		e[i]--
		d = append(d, api.Mono{C: c, E: e})
	}
	return d, api.OK
}
