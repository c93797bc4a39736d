package field

import (
	"fathomline/api"
	"fathomline/poly"
)

// At returns the value of f at x.
func At(f [][]api.Mono, x []api.Num) ([]api.Num, api.Errno) {
	// Empty polynomials have a value at every point, of any length.
	if !Right(f) || len(x) != len(f) {
		return nil, api.ErrForm
	}
	values := make([]api.Num, len(f))
	for i := range len(f) {
		value, err := poly.At(f[i], x)
		if err != api.OK {
			return nil, err
		}
		values[i] = value
	}
	return values, api.OK
}

// Range returns a box that contains the values of f at all points of b.
func Range(f [][]api.Mono, b []api.Iv, prec int) ([]api.Iv, api.Errno) {
	if !Right(f) || len(b) != len(f) {
		return nil, api.ErrForm
	}
	values := make([]api.Iv, len(f))
	for i := range len(f) {
		value, err := poly.Range(f[i], b, prec)
		if err != api.OK {
			return nil, err
		}
		values[i] = value
	}
	return values, api.OK
}

// Jac returns the derivatives of f: a row for each polynomial, a column for each
// variable.
func Jac(f [][]api.Mono) ([][][]api.Mono, api.Errno) {
	if !Right(f) {
		return nil, api.ErrForm
	}
	n := len(f)
	matrix := make([][][]api.Mono, n)
	var err api.Errno
rows:
	for i := range n {
		matrix[i] = make([][]api.Mono, n)
		for j := range n {
			matrix[i][j], err = poly.Diff(f[i], j, n)
			if err != api.OK {
				break rows
			}
		}
	}
	if err != api.OK {
		return nil, err
	}
	return matrix, api.OK
}
