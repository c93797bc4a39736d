package ortho

import (
	"fmt"
	"math/big"

	"fathomline/api"
)

// P9.1: the results are those of another implementation, which forms each exact
// value by math/big and rounds it by a division of signed integers. Of the
// program it uses package api alone.

// dyadic is m times 2^exp.
type dyadic struct {
	m   *big.Int
	exp int64
}

func whole(n int64) dyadic { return dyadic{big.NewInt(n), 0} }

// valueOf goes through bytes, so that it hangs on no word size of math/big.
func valueOf(x api.Num) dyadic {
	text := make([]byte, 8*len(x.W))
	for i, w := range x.W {
		for k := range 8 {
			text[len(text)-1-8*i-k] = byte(w >> (8 * k))
		}
	}
	m := new(big.Int).SetBytes(text)
	if x.Neg {
		m.Neg(m)
	}
	return dyadic{m, x.Exp}
}

// mapped is f of each element.
func mapped[T, R any](a [][]T, f func(x T) R) [][]R {
	var list [][]R
	for _, row := range a {
		r := make([]R, len(row))
		for j, x := range row {
			r[j] = f(x)
		}
		list = append(list, r)
	}
	return list
}

// at is the integer that d has for an exponent that is not greater.
func (d dyadic) at(exp int64) *big.Int {
	return new(big.Int).Lsh(d.m, uint(d.exp-exp))
}

func (d dyadic) plus(e dyadic) dyadic {
	exp := min(d.exp, e.exp)
	return dyadic{new(big.Int).Add(d.at(exp), e.at(exp)), exp}
}

func (d dyadic) negated() dyadic { return dyadic{new(big.Int).Neg(d.m), d.exp} }

func (d dyadic) size() dyadic { return dyadic{new(big.Int).Abs(d.m), d.exp} }

func (d dyadic) times(e dyadic) dyadic {
	return dyadic{new(big.Int).Mul(d.m, e.m), d.exp + e.exp}
}

func (d dyadic) cmp(e dyadic) int {
	exp := min(d.exp, e.exp)
	return d.at(exp).Cmp(e.at(exp))
}

// over is a value that lies where d / e does among all numbers of up to MaxPrec
// bits, for e above 0: between the same two, or on the same one. The floor and
// the last bit, which is 1 where d / e has no end, tell so for either sign of d.
func (d dyadic) over(e dyadic) dyadic {
	places := uint(max(0, e.m.BitLen()-d.m.BitLen()) + api.MaxPrec + 2)
	m, rest := new(big.Int).DivMod(new(big.Int).Lsh(d.m, places), e.m, new(big.Int))
	m.Lsh(m, 1)
	if rest.Sign() != 0 {
		m.Add(m, big.NewInt(1))
	}
	return dyadic{m, d.exp - e.exp - int64(places) - 1}
}

// rounded is d rounded down to prec bits.
func (d dyadic) rounded(prec int) dyadic {
	low := d.m.BitLen() - prec
	if low <= 0 {
		return d
	}
	// The shift goes down for either sign.
	return dyadic{new(big.Int).Rsh(d.m, uint(low)), d.exp + int64(low)}
}

// number is the valid number with the value, or false.
func (d dyadic) number() (api.Num, bool) {
	if d.m.Sign() == 0 {
		return api.Num{}, true
	}
	zeros := d.m.TrailingZeroBits()
	m := new(big.Int).Rsh(new(big.Int).Abs(d.m), zeros)
	exp := d.exp + int64(zeros)
	if m.BitLen() > maxBits || exp < -maxExp || exp > maxExp {
		return api.Num{}, false
	}
	x := api.Num{Neg: d.m.Sign() < 0, Exp: exp}
	for mask := new(big.Int).SetUint64(all); m.Sign() > 0; m.Rsh(m, 64) {
		x.W = append(x.W, new(big.Int).And(m, mask).Uint64())
	}
	return x, true
}

// calc performs operations to prec bits until one of them fails.
type calc struct {
	prec  int
	err   api.Errno
	what  string // the operation that failed
	exact bool   // whether no operation has rounded its result
}

func newCalc(prec int) *calc { return &calc{prec: prec, exact: true} }

func (c *calc) fail(err api.Errno, what string) {
	if c.err == api.OK {
		c.err, c.what = err, what
	}
}

// result is d rounded, if nothing has failed yet.
func (c *calc) result(d dyadic, what string) dyadic {
	if c.err != api.OK {
		return whole(0)
	}
	r := d.rounded(c.prec)
	c.exact = c.exact && r.cmp(d) == 0
	if _, ok := r.number(); !ok {
		c.fail(api.ErrOver, what)
	}
	return r
}

// columns is Columns by the words of P9.1. The result is a list of columns.
func (c *calc) columns(numbers [][]api.Num) [][]dyadic {
	var done [][]dyadic
	for k, v := range flipped(mapped(numbers, valueOf)) {
		for l, u := range done {
			place := fmt.Sprintf("%d%d", k, l)
			along := c.dot(u, v, "uv"+place)
			all := c.dot(u, u, "uu"+place)
			if c.err != api.OK {
				return nil
			}
			f := c.result(along.over(all), "quotient "+place)
			for i, x := range u {
				product := c.result(f.times(x), fmt.Sprintf("product cu%s%d", place, i))
				v[i] = c.result(v[i].plus(product.negated()), fmt.Sprintf("difference %s%d", place, i))
			}
		}
		done = append(done, c.scale(v, k))
		if c.err != api.OK {
			return nil
		}
	}
	return done
}

func (c *calc) dot(u, v []dyadic, what string) dyadic {
	sum := c.result(u[0].times(v[0]), "product "+what+"0")
	for i := 1; i < len(u); i++ {
		product := c.result(u[i].times(v[i]), fmt.Sprintf("product %s%d", what, i))
		sum = c.result(sum.plus(product), fmt.Sprintf("sum %s%d", what, i))
	}
	return sum
}

// scale looks for the power of two one by one.
func (c *calc) scale(v []dyadic, k int) []dyadic {
	greatest := whole(0)
	for _, x := range v {
		if x.size().cmp(greatest) > 0 {
			greatest = x.size()
		}
	}
	if greatest.m.Sign() == 0 {
		c.fail(api.ErrZero, fmt.Sprintf("column %d", k))
		return nil
	}
	power := dyadic{big.NewInt(1), -greatest.exp - int64(greatest.m.BitLen()) - 2}
	for greatest.times(power).times(whole(2)).cmp(whole(1)) < 0 {
		power.exp++
	}
	var r []dyadic
	for i, x := range v {
		x = x.times(power)
		if _, ok := x.number(); !ok {
			c.fail(api.ErrOver, fmt.Sprintf("scaling %d%d", k, i))
		}
		r = append(r, x)
	}
	return r
}
