package inv

import (
	"fmt"
	"math/big"
	"slices"

	"fathomline/api"
)

// P8.1 and P8.2: the results are those of another implementation, which forms
// each exact value by math/big and rounds it by a division of signed integers.
// Of the program it uses package api alone.

// dyadic is m times 2^exp.
type dyadic struct {
	m   *big.Int
	exp int64
}

func whole(n int64) dyadic { return dyadic{big.NewInt(n), 0} }

// valueOf goes through bytes, so that it hangs on no word size of math/big.
func valueOf(x api.Num) dyadic {
	text := make([]byte, 8*len(x.W))
	for i, w := range x.W {
		for k := range 8 {
			text[len(text)-1-8*i-k] = byte(w >> (8 * k))
		}
	}
	m := new(big.Int).SetBytes(text)
	if x.Neg {
		m.Neg(m)
	}
	return dyadic{m, x.Exp}
}

func valuesOf(a [][]api.Num) [][]dyadic {
	return mapped(a, valueOf)
}

// mapped is f of each element.
func mapped[T, R any](a [][]T, f func(x T) R) [][]R {
	var list [][]R
	for _, row := range a {
		r := make([]R, len(row))
		for j, x := range row {
			r[j] = f(x)
		}
		list = append(list, r)
	}
	return list
}

// at is the integer that d has for an exponent that is not greater.
func (d dyadic) at(exp int64) *big.Int {
	return new(big.Int).Lsh(d.m, uint(d.exp-exp))
}

func (d dyadic) plus(e dyadic) dyadic {
	exp := min(d.exp, e.exp)
	return dyadic{new(big.Int).Add(d.at(exp), e.at(exp)), exp}
}

func (d dyadic) negated() dyadic { return dyadic{new(big.Int).Neg(d.m), d.exp} }

func (d dyadic) size() dyadic { return dyadic{new(big.Int).Abs(d.m), d.exp} }

func (d dyadic) times(e dyadic) dyadic {
	return dyadic{new(big.Int).Mul(d.m, e.m), d.exp + e.exp}
}

func (d dyadic) cmp(e dyadic) int {
	exp := min(d.exp, e.exp)
	return d.at(exp).Cmp(e.at(exp))
}

// over is a value that lies where d / e does among all numbers of up to MaxPrec
// bits: between the same two, or on the same one. Floors and the last bit, which
// is 1 behind what has no end, tell so for either sign.
func (d dyadic) over(e dyadic) dyadic {
	places := uint(max(0, e.m.BitLen()-d.m.BitLen()) + api.MaxPrec + 2)
	m, rest := new(big.Int).DivMod(new(big.Int).Lsh(d.m, places), e.m, new(big.Int))
	if rest.Sign() == 0 {
		return dyadic{m, d.exp - e.exp - int64(places)}
	}
	// DivMod leaves a rest of 0 or more, so m is not above the quotient if e is
	// positive, and not below it if e is negative.
	m.Lsh(m, 1)
	m.Add(m, big.NewInt(int64(e.m.Sign())))
	return dyadic{m, d.exp - e.exp - int64(places) - 1}
}

// rounded is d rounded to prec bits.
func (d dyadic) rounded(prec int, up bool) dyadic {
	low := d.m.BitLen() - prec
	if low <= 0 {
		return d
	}
	m := new(big.Int).Set(d.m)
	if up {
		m.Neg(m)
	}
	m.Rsh(m, uint(low)) // goes down for either sign
	if up {
		m.Neg(m)
	}
	return dyadic{m, d.exp + int64(low)}
}

// number is the valid number with the value, or false.
func (d dyadic) number() (api.Num, bool) {
	if d.m.Sign() == 0 {
		return api.Num{}, true
	}
	zeros := d.m.TrailingZeroBits()
	m := new(big.Int).Rsh(new(big.Int).Abs(d.m), zeros)
	exp := d.exp + int64(zeros)
	if m.BitLen() > maxBits || exp < -maxExp || exp > maxExp {
		return api.Num{}, false
	}
	x := api.Num{Neg: d.m.Sign() < 0, Exp: exp}
	for mask := new(big.Int).SetUint64(all); m.Sign() > 0; m.Rsh(m, 64) {
		x.W = append(x.W, new(big.Int).And(m, mask).Uint64())
	}
	return x, true
}

// calc performs operations to prec bits until one of them fails.
type calc struct {
	prec int
	err  api.Errno
	what string // the operation that failed
}

func (c *calc) fail(err api.Errno, what string) dyadic {
	if c.err == api.OK {
		c.err, c.what = err, what
	}
	return whole(0)
}

// result is d rounded, if nothing has failed yet.
func (c *calc) result(d dyadic, up bool, what string) dyadic {
	if c.err != api.OK {
		return whole(0)
	}
	d = d.rounded(c.prec, up)
	if _, ok := d.number(); !ok {
		return c.fail(api.ErrOver, what)
	}
	return d
}

func identity(n int) [][]dyadic {
	var r [][]dyadic
	for i := range n {
		row := slices.Repeat([]dyadic{whole(0)}, n)
		row[i] = whole(1)
		r = append(r, row)
	}
	return r
}

// approx is Approx by the words of P8.1.
func (c *calc) approx(numbers [][]api.Num) [][]dyadic {
	a := valuesOf(numbers)
	r := identity(len(a))
	for k := range a {
		p := k
		for i := k + 1; i < len(a); i++ {
			if a[i][k].size().cmp(a[p][k].size()) > 0 {
				p = i
			}
		}
		if a[p][k].m.Sign() == 0 {
			c.fail(api.ErrZero, "pivot")
			return nil
		}
		a[p], a[k] = a[k], a[p]
		r[p], r[k] = r[k], r[p]
		c.clearColumn(a, r, k)
		if c.err != api.OK {
			return nil
		}
	}
	return r
}

// clearColumn divides row k, and subtracts it from the others.
func (c *calc) clearColumn(a, r [][]dyadic, k int) {
	d := a[k][k]
	sides := map[string][][]dyadic{"a": a, "r": r}
	for _, side := range []string{"a", "r"} {
		for j, x := range sides[side][k] {
			sides[side][k][j] = c.result(x.over(d), false, fmt.Sprintf("quotient %d%d%s%d", k, k, side, j))
		}
	}
	for i := range a {
		m := a[i][k]
		if i == k || m.m.Sign() == 0 {
			continue
		}
		for _, side := range []string{"a", "r"} {
			s := sides[side]
			for j := range s {
				place := fmt.Sprintf("%d%d%s%d", k, i, side, j)
				product := c.result(m.times(s[k][j]), false, "product "+place)
				s[i][j] = c.result(s[i][j].plus(product.negated()), false, "difference "+place)
			}
		}
	}
}

// span is from lo to hi.
type span struct{ lo, hi dyadic }

// sure is Sure by the words of P8.2.
func (c *calc) sure(numbers [][]api.Num) [][]span {
	r := c.approx(numbers)
	if c.err != api.OK {
		return nil
	}
	e := c.norm(c.defect(r, valuesOf(numbers)), "norm of E")
	if c.err == api.OK && e.cmp(whole(1)) >= 0 {
		c.fail(api.ErrZero, "e")
	}
	d := c.result(whole(1).plus(e.negated()), false, "d")
	norm := c.norm(mapped(r, func(x dyadic) span { return span{x, x} }), "norm of r")
	product := c.result(norm.times(e), true, "product with e")
	if c.err != api.OK {
		return nil
	}
	q := c.result(product.over(d), true, "quotient by d")
	return mapped(r, func(x dyadic) span {
		return span{c.result(x.plus(q.negated()), false, "lower end"), c.result(x.plus(q), true, "upper end")}
	})
}

// defect is the identity matrix minus the product of r and a.
func (c *calc) defect(r, a [][]dyadic) [][]span {
	one := identity(len(a))
	product := mapped(one, func(x dyadic) span { return span{x, x} })
	for i := range a {
		for j := range a {
			product[i][j] = c.element(r[i], a, j)
		}
	}
	for i := range a {
		for j, p := range product[i] {
			lo := c.result(one[i][j].plus(p.hi.negated()), false, "difference of E")
			hi := c.result(one[i][j].plus(p.lo.negated()), true, "difference of E")
			product[i][j] = span{lo, hi}
		}
	}
	return product
}

// element is the product of a row and the column j of a.
func (c *calc) element(row []dyadic, a [][]dyadic, j int) span {
	var sum span
	for k, x := range row {
		exact := x.times(a[k][j])
		lo, hi := c.result(exact, false, "product of E"), c.result(exact, true, "product of E")
		if k > 0 {
			lo, hi = c.result(sum.lo.plus(lo), false, "sum of E"), c.result(sum.hi.plus(hi), true, "sum of E")
		}
		sum = span{lo, hi}
	}
	return sum
}

func (c *calc) norm(m [][]span, what string) dyadic {
	best := whole(0)
	for _, row := range m {
		sum := whole(0)
		for j, s := range row {
			size := s.lo.size()
			if s.hi.size().cmp(size) > 0 {
				size = s.hi.size()
			}
			sum = sum.plus(size)
			if j > 0 {
				sum = c.result(sum, true, what)
			}
		}
		if sum.cmp(best) > 0 {
			best = sum
		}
	}
	return best
}
