package inv

import (
	"slices"

	"fathomline/api"
	"fathomline/num"
	"fathomline/round"
)

// Approx returns an approximate inverse of a by Gauss-Jordan elimination with
// partial pivoting, or ErrZero if a pivot element is 0.
func Approx(a [][]api.Num, prec int) ([][]api.Num, api.Errno) {
	if !right(a, prec) {
		return nil, api.ErrForm
	}
	n := len(a)
	rows := besideIdentity(a)
	for k := range n {
		if err := eliminate(rows, k, prec); err != api.OK {
			return nil, err
		}
	}
	r := make([][]api.Num, n)
	for i, row := range rows {
		r[i] = slices.Clone(row[n:])
	}
	return r, api.OK
}

// right reports whether a is a square matrix of valid numbers that has a size
// in range, and prec is in range too.
func right(a [][]api.Num, prec int) bool {
	n := len(a)
	if n < 1 || n > api.MaxDim || prec < api.MinPrec || prec > api.MaxPrec {
		return false
	}
	for _, row := range a {
		if len(row) != n {
			return false
		}
		for _, x := range row {
			if !num.Right(x) {
				return false
			}
		}
	}
	return true
}

// besideIdentity returns new rows: each has a's row and, behind it, that of the
// identity matrix, so that an operation on a row is one on both matrices.
func besideIdentity(a [][]api.Num) [][]api.Num {
	n := len(a)
	rows := make([][]api.Num, n)
	for i, row := range a {
		rows[i] = make([]api.Num, 2*n)
		copy(rows[i], row)
		rows[i][n+i] = num.Int(1)
	}
	return rows
}

// eliminate makes column k that of the identity matrix, but for rounding errors.
// They stay where they are, since a later operation on one of them may fail.
func eliminate(rows [][]api.Num, k, prec int) api.Errno {
	p, ok := pivot(rows, k)
	if !ok {
		return api.ErrZero
	}
	rows[p], rows[k] = rows[k], rows[p]
	if err := divide(rows[k], rows[k][k], prec); err != api.OK {
		return err
	}
others:
	for i, row := range rows {
		m := row[k]
		if i == k || num.Sign(m) == 0 {
			continue others // subtracting 0 would round what is long
		}
		if err := subtract(row, m, rows[k], prec); err != api.OK {
			return err
		}
	}
	return api.OK
}

// pivot returns the first row from row k on whose element in column k no other
// of these exceeds in absolute value, or false if all of them are 0.
func pivot(rows [][]api.Num, k int) (int, bool) {
candidates:
	for i := k; i < len(rows); i++ {
		size := num.Abs(rows[i][k])
		if num.Sign(size) == 0 {
			continue candidates
		}
		for _, other := range rows[k:] {
			if num.Cmp(num.Abs(other[k]), size) > 0 {
				continue candidates
			}
		}
		return i, true
	}
	return 0, false
}

// divide divides each element of the row by d.
func divide(row []api.Num, d api.Num, prec int) api.Errno {
	for j, x := range row {
		quotient, err := round.Div(x, d, prec, false)
		if err != api.OK {
			return err
		}
		row[j] = quotient
	}
	return api.OK
}

// subtract subtracts m times the other row from the row.
func subtract(row []api.Num, m api.Num, other []api.Num, prec int) api.Errno {
	for j, x := range other {
		product, err := round.Mul(m, x, prec, false)
		if err != api.OK {
			return err
		}
		difference, err := round.Sub(row[j], product, prec, false)
		if err != api.OK {
			return err
		}
		row[j] = difference
	}
	return api.OK
}
