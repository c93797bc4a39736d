package parse

import (
	"fathomline/api"
	"fathomline/num"
	"fathomline/poly"
)

// valueOf returns the polynomial of n variables that t represents. Its memory
// may be that of t.
func valueOf(t tree, n int) ([]api.Mono, api.Errno) {
	switch t := t.(type) {
	case number:
		if t.err != api.OK {
			return nil, t.err
		}
		return constant(t.c, n), api.OK
	case variable:
		e := make([]int, n)
		e[t] = 1
		return []api.Mono{{C: num.Int(1), E: e}}, api.OK
	case power:
		return powerOf(t, n)
	case sum:
		return sumOf(t, n)
	}
	return nil, api.OK
}

// constant returns the polynomial c of n variables.
func constant(c api.Num, n int) []api.Mono {
	if num.Sign(c) == 0 {
		return nil
	}
	return []api.Mono{{C: c, E: make([]int, n)}}
}

func powerOf(t power, n int) ([]api.Mono, api.Errno) {
	base, err := valueOf(t.base, n)
	if err != api.OK {
		return nil, err
	}
	if t.exp == 0 {
		return constant(num.Int(1), n), api.OK
	}
	p := base
	for range t.exp - 1 {
		p, err = poly.Mul(p, base, n)
		if err != api.OK {
			return nil, err
		}
	}
	return p, api.OK
}

func sumOf(t sum, n int) ([]api.Mono, api.Errno) {
	p, err := termOf(t[0], n)
	if err != api.OK {
		return nil, err
	}
	for _, next := range t[1:] {
		q, err := termOf(next, n)
		if err != api.OK {
			return nil, err
		}
		p, err = poly.Add(p, q, n)
		if err != api.OK {
			return nil, err
		}
	}
	return p, api.OK
}

// termOf returns what is to be added for t: its product, negated if it is to be
// subtracted.
func termOf(t term, n int) ([]api.Mono, api.Errno) {
	p, err := valueOf(t.factors[0], n)
	if err != api.OK {
		return nil, err
	}
	for _, next := range t.factors[1:] {
		q, err := valueOf(next, n)
		if err != api.OK {
			return nil, err
		}
		p, err = poly.Mul(p, q, n)
		if err != api.OK {
			return nil, err
		}
	}
	if t.minus {
		for i, m := range p {
			p[i].C = num.Neg(m.C)
		}
	}
	return p, api.OK
}
