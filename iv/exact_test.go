package iv

import (
	"math/big"
	"testing"

	"fathomline/api"
	"fathomline/num"
)

// P5.2, P5.3 and P5.4: the results are those of another implementation, which
// knows nothing of limits, forms the results for all ends as fractions, takes
// the least and the greatest one, and rounds by divisions of signed integers.
// It decides too whether valid numbers have the rounded values.

// dyadic is m times 2^exp.
type dyadic struct {
	m   *big.Int
	exp int64
}

func one() dyadic { return dyadic{big.NewInt(1), 0} }

// valueOf goes through bytes, so that it hangs on no word size of math/big.
func valueOf(x api.Num) dyadic {
	text := make([]byte, 8*len(x.W))
	for i, w := range x.W {
		for k := range 8 {
			text[len(text)-1-8*i-k] = byte(w >> (8 * k))
		}
	}
	m := new(big.Int).SetBytes(text)
	if x.Neg {
		m.Neg(m)
	}
	return dyadic{m, x.Exp}
}

// number is the valid number with the value, or ErrOver.
func (d dyadic) number() (api.Num, api.Errno) {
	if d.m.Sign() == 0 {
		return api.Num{}, api.OK
	}
	zeros := d.m.TrailingZeroBits()
	m := new(big.Int).Abs(d.m)
	m.Rsh(m, zeros)
	exp := d.exp + int64(zeros)
	if m.BitLen() > maxBits || exp < -maxExp || exp > maxExp {
		return api.Num{}, api.ErrOver
	}
	w := make([]uint64, (m.BitLen()+63)/64)
	for i, b := range m.FillBytes(make([]byte, 8*len(w))) {
		w[len(w)-1-i/8] |= uint64(b) << (56 - 8*(i%8))
	}
	return api.Num{Neg: d.m.Sign() < 0, Exp: exp, W: w}, api.OK
}

// at is the integer that d has for an exponent that is not greater.
func (d dyadic) at(exp int64) *big.Int {
	return new(big.Int).Lsh(d.m, uint(d.exp-exp))
}

func (d dyadic) plus(e dyadic) dyadic {
	exp := min(d.exp, e.exp)
	return dyadic{new(big.Int).Add(d.at(exp), e.at(exp)), exp}
}

func (d dyadic) minus() dyadic { return dyadic{new(big.Int).Neg(d.m), d.exp} }

func (d dyadic) times(e dyadic) dyadic {
	return dyadic{new(big.Int).Mul(d.m, e.m), d.exp + e.exp}
}

func (d dyadic) power(k int) dyadic {
	return dyadic{new(big.Int).Exp(d.m, big.NewInt(int64(k)), nil), int64(k) * d.exp}
}

func (d dyadic) half() dyadic { return dyadic{d.m, d.exp - 1} }

func (d dyadic) cmp(e dyadic) int { return d.plus(e.minus()).m.Sign() }

// ratio is n / d, with d above 0.
type ratio struct{ n, d dyadic }

func whole(n dyadic) ratio { return ratio{n, one()} }

func (d dyadic) over(e dyadic) ratio {
	if e.m.Sign() < 0 {
		return ratio{d.minus(), e.minus()}
	}
	return ratio{d, e}
}

func (r ratio) cmp(s ratio) int { return r.n.times(s.d).cmp(s.n.times(r.d)) }

// rounded is r rounded to prec bits: the multiple next to r of a power of two,
// for which r is from 2^(prec-1) to 2^prec.
func (r ratio) rounded(prec int, up bool) dyadic {
	place := r.n.m.BitLen() - r.d.m.BitLen() - prec
	if x, y := r.parts(place + prec); x.CmpAbs(y) >= 0 {
		place++
	}
	x, y := r.parts(place)
	exp := r.n.exp - r.d.exp + int64(place)
	if up {
		floor := new(big.Int).Div(x.Neg(x), y)
		return dyadic{floor.Neg(floor), exp}
	}
	return dyadic{new(big.Int).Div(x, y), exp}
}

// parts are integers whose quotient is that of r's divided by 2^place.
func (r ratio) parts(place int) (*big.Int, *big.Int) {
	x, y := new(big.Int).Set(r.n.m), new(big.Int).Set(r.d.m)
	if place > 0 {
		return x, y.Lsh(y, uint(place))
	}
	return x.Lsh(x, uint(-place)), y
}

// around is the interval from the least to the greatest, rounded outward.
func around(results []ratio, prec int) (api.Iv, api.Errno) {
	least, greatest := results[0], results[0]
	for _, r := range results[1:] {
		if r.cmp(least) < 0 {
			least = r
		}
		if r.cmp(greatest) > 0 {
			greatest = r
		}
	}
	lo, err1 := least.rounded(prec, false).number()
	hi, err2 := greatest.rounded(prec, true).number()
	if err1 != api.OK || err2 != api.OK {
		return api.Iv{}, api.ErrOver
	}
	return api.Iv{Lo: lo, Hi: hi}, api.OK
}

type operation func(a, b api.Iv, prec int) (api.Iv, api.Errno)

func operations() map[string]operation {
	return map[string]operation{"Add": Add, "Sub": Sub, "Mul": Mul, "Div": Div}
}

// exact is the result of an operation for two numbers.
func exact(name string, v, w dyadic) ratio {
	switch name {
	case "Add":
		return whole(v.plus(w))
	case "Sub":
		return whole(v.plus(w.minus()))
	case "Mul":
		return whole(v.times(w))
	}
	return v.over(w)
}

func hasZero(a api.Iv) bool {
	return valueOf(a.Lo).m.Sign() <= 0 && valueOf(a.Hi).m.Sign() >= 0
}

// reference is what an operation has to return for valid arguments.
func reference(name string, a, b api.Iv, prec int) (api.Iv, api.Errno) {
	if name == "Div" && hasZero(b) {
		return api.Iv{}, api.ErrZero
	}
	var results []ratio
	for _, x := range []api.Num{a.Lo, a.Hi} {
		for _, y := range []api.Num{b.Lo, b.Hi} {
			results = append(results, exact(name, valueOf(x), valueOf(y)))
		}
	}
	return around(results, prec)
}

func referencePow(a api.Iv, k, prec int) (api.Iv, api.Errno) {
	results := []ratio{whole(valueOf(a.Lo).power(k)), whole(valueOf(a.Hi).power(k))}
	if hasZero(a) {
		results = append(results, whole(valueOf(api.Num{}).power(k)))
	}
	return around(results, prec)
}

func referenceMid(a api.Iv, prec int) (api.Num, api.Errno) {
	lo := valueOf(a.Lo)
	mid := whole(lo.plus(valueOf(a.Hi)).half()).rounded(prec, false)
	if mid.cmp(lo) < 0 {
		mid = lo
	}
	return mid.number()
}

func referenceRad(a api.Iv, prec int) (api.Num, api.Errno) {
	x, err := referenceMid(a, prec)
	if err != api.OK {
		return api.Num{}, err
	}
	mid := valueOf(x)
	rad, other := valueOf(a.Hi).plus(mid.minus()), mid.plus(valueOf(a.Lo).minus())
	if rad.cmp(other) < 0 {
		rad = other
	}
	return whole(rad).rounded(prec, true).number()
}

func referenceWide(a api.Iv, prec int) (api.Num, api.Errno) {
	return whole(valueOf(a.Hi).plus(valueOf(a.Lo).minus())).rounded(prec, true).number()
}

func checkCalc(t *testing.T, a, b api.Iv, prec int) {
	t.Helper()
	for name, call := range operations() {
		want, wantErr := reference(name, a, b, prec)
		if got, err := call(a, b, prec); err != wantErr || !equalIv(got, want) {
			t.Errorf("%s of %v, %v to %d bits: %v, %d, not %v, %d", name, a, b, prec, got, err, want, wantErr)
		}
	}
}

func checkPow(t *testing.T, a api.Iv, k, prec int) {
	t.Helper()
	want, wantErr := referencePow(a, k, prec)
	if got, err := Pow(a, k, prec); err != wantErr || !equalIv(got, want) {
		t.Errorf("Pow(%v, %d, %d) = %v, %d, not %v, %d", a, k, prec, got, err, want, wantErr)
	}
}

type measure func(a api.Iv, prec int) (api.Num, api.Errno)

func measures() map[string]measure {
	return map[string]measure{"Mid": Mid, "Rad": Rad, "Wide": Wide}
}

func checkMeasures(t *testing.T, a api.Iv, prec int) {
	t.Helper()
	references := map[string]measure{"Mid": referenceMid, "Rad": referenceRad, "Wide": referenceWide}
	for name, call := range measures() {
		want, wantErr := references[name](a, prec)
		if got, err := call(a, prec); err != wantErr || !equal(got, want) {
			t.Errorf("%s(%v, %d) = %v, %d, not %v, %d", name, a, prec, got, err, want, wantErr)
		}
	}
}

// source yields the same words in every run.
type source uint64

func (s *source) next() uint64 {
	*s += 0x9e3779b97f4a7c15
	x := uint64(*s)
	x = (x ^ x>>30) * 0xbf58476d1ce4e5b9
	x = (x ^ x>>27) * 0x94d049bb133111eb
	return x ^ x>>31
}

func (s *source) below(n int) int { return int(s.next() % uint64(n)) }

func (s *source) word() uint64 {
	switch s.below(8) {
	case 0, 1:
		return 0
	case 2, 3:
		return all
	case 4:
		return 1 << s.below(64)
	case 5:
		return all >> s.below(64)
	}
	return s.next()
}

// size is a number of words: mostly few, sometimes as many as there may be.
func (s *source) size() int {
	switch s.below(12) {
	case 0:
		return api.MaxWords - s.below(3)
	case 1:
		return s.below(api.MaxWords + 1)
	}
	return s.below(5)
}

// exponent is mostly near 0, or near a bound so that results lie at it too.
func (s *source) exponent() int64 {
	switch s.below(10) {
	case 0:
		return int64(s.below(600)) - maxExp
	case 1:
		return maxExp - int64(s.below(600))
	case 2:
		return int64(s.below(2*maxExp+1)) - maxExp
	case 3:
		return int64(s.below(2*maxBits+1)) - maxBits
	}
	return int64(s.below(300)) - 150
}

// number is valid.
func (s *source) number() api.Num {
	w := make([]uint64, s.size())
	if len(w) == 0 {
		return api.Num{}
	}
	for i := range w {
		w[i] = s.word()
	}
	w[0] |= 1
	w[len(w)-1] |= 1
	if s.below(2) == 0 {
		w[len(w)-1] |= 1 << s.below(64)
	}
	return api.Num{Neg: s.below(2) == 0, Exp: s.exponent(), W: w}
}

// near is x with another bit or another sign.
func (s *source) near(x api.Num) api.Num {
	y := api.Num{Neg: x.Neg, Exp: x.Exp, W: append([]uint64{}, x.W...)}
	if len(y.W) > 0 {
		place := 1 + s.below(64*len(y.W)-1)
		y.W[place/64] ^= 1 << (place % 64)
		y.Neg = s.below(3) == 0
	}
	if !num.Right(y) {
		return x
	}
	return y
}

// interval is valid: a point, between numbers that are near, or any.
func (s *source) interval() api.Iv {
	x, y := s.number(), s.number()
	switch s.below(6) {
	case 0:
		return point(x)
	case 1:
		y = s.near(x)
	case 2:
		y = minus(x)
	}
	if valueOf(x).cmp(valueOf(y)) > 0 {
		x, y = y, x
	}
	return from(x, y)
}

// inside are values of prec in range, both bounds among them.
func inside() []int {
	return []int{api.MinPrec, api.MinPrec + 1, 63, 64, 65, 127, 128, 129, api.MaxPrec - 1, api.MaxPrec}
}

// prec is in range, and often at a bound of it or of words.
func (s *source) prec() int {
	if s.below(2) == 0 {
		return inside()[s.below(len(inside()))]
	}
	return api.MinPrec + s.below(api.MaxPrec-api.MinPrec+1)
}

func TestAgainstFractions(t *testing.T) {
	s := source(1)
	for range 4000 {
		a, b, prec := s.interval(), s.interval(), s.prec()
		checkCalc(t, a, b, prec)
		checkPow(t, a, s.below(api.MaxDeg+1), prec)
		checkMeasures(t, a, prec)
		if t.Failed() {
			return
		}
	}
}

// TestAgainstFractionsAround has pairs of intervals around 0 of which the two
// products that may be an end are nearly equal.
func TestAgainstFractionsAround(t *testing.T) {
	s := source(2)
	for range 3000 {
		x, y := s.number(), s.number()
		if isZero(x) || isZero(y) {
			continue
		}
		x.Neg, y.Neg = false, false
		u, v := s.near(x), s.near(y)
		u.Neg, v.Neg = true, true
		checkCalc(t, from(u, x), from(v, y), s.prec())
		checkCalc(t, from(minus(x), minus(u)), from(v, y), s.prec())
		if t.Failed() {
			return
		}
	}
}

// limitNumbers are the ones at which the limits of numbers are met.
func limitNumbers() []api.Num {
	numbers := []api.Num{{}}
	for _, x := range []api.Num{
		of(1, -maxExp), of(171, -maxExp), full(9, -maxExp), of(255, 1-maxExp), full(maxBits, -maxExp),
		of(1, -1), of(1, 0), of(255, -8), full(maxBits, -300), of(1, 1),
		of(509, maxExp-1), of(1, maxExp), of(255, maxExp), of(257, maxExp), of(511, maxExp), full(maxBits, maxExp),
	} {
		numbers = append(numbers, x, minus(x))
	}
	return numbers
}

// limitIvs are all intervals between numbers at the limits.
func limitIvs() []api.Iv {
	var ivs []api.Iv
	for _, x := range limitNumbers() {
		for _, y := range limitNumbers() {
			if valueOf(x).cmp(valueOf(y)) <= 0 {
				ivs = append(ivs, from(x, y))
			}
		}
	}
	return ivs
}

func TestAgainstFractionsLimits(t *testing.T) {
	ivs := limitIvs()
	s := source(3)
	for range 3000 {
		checkCalc(t, ivs[s.below(len(ivs))], ivs[s.below(len(ivs))], []int{8, 8, 9, 256}[s.below(4)])
		if t.Failed() {
			return
		}
	}
	for _, a := range ivs {
		for _, prec := range []int{8, 9, 256} {
			checkMeasures(t, a, prec)
			checkPow(t, a, s.below(api.MaxDeg+1), prec)
		}
	}
}

// P5.4

// within reports whether r is in a.
func within(a api.Iv, r ratio) bool {
	return whole(valueOf(a.Lo)).cmp(r) <= 0 && r.cmp(whole(valueOf(a.Hi))) <= 0
}

// between is a number in a: an end, or one that cuts a into parts.
func (s *source) between(a api.Iv) api.Num {
	lo, hi := valueOf(a.Lo), valueOf(a.Hi)
	part := dyadic{big.NewInt(int64(s.below(257))), -8}
	x, err := lo.plus(hi.plus(lo.minus()).times(part)).number()
	if err != api.OK {
		return a.Lo
	}
	return x
}

func (s *source) part(a api.Iv) api.Iv {
	x, y := s.between(a), s.between(a)
	if valueOf(x).cmp(valueOf(y)) > 0 {
		x, y = y, x
	}
	return from(x, y)
}

// TestContains: the result has the exact result for numbers of the operands.
func TestContains(t *testing.T) {
	s := source(4)
	seen := 0
	for range 2500 {
		a, b, prec := s.interval(), s.interval(), s.prec()
		x, y := s.between(a), s.between(b)
		for name, call := range operations() {
			result, err := call(a, b, prec)
			if err != api.OK {
				continue
			}
			seen++
			if !within(result, exact(name, valueOf(x), valueOf(y))) {
				t.Fatalf("%s of %v, %v to %d bits has no %v, %v", name, a, b, prec, x, y)
			}
		}
		k := s.below(api.MaxDeg + 1)
		if result, err := Pow(a, k, prec); err == api.OK && !within(result, whole(valueOf(x).power(k))) {
			t.Fatalf("Pow(%v, %d, %d) has no %v", a, k, prec, x)
		}
		if mid, err := Mid(a, prec); err == api.OK && !within(a, whole(valueOf(mid))) {
			t.Fatalf("Mid(%v, %d) is %v", a, prec, mid)
		}
	}
	if seen < 5000 {
		t.Errorf("only %d results", seen)
	}
}

// TestParts: subsets of the operands yield subsets of the result.
func TestParts(t *testing.T) {
	s := source(5)
	seen := 0
	for range 2500 {
		a, b, prec := s.interval(), s.interval(), s.prec()
		c, d := s.part(a), s.part(b)
		for name, call := range operations() {
			result, err1 := call(a, b, prec)
			part, err2 := call(c, d, prec)
			if err1 != api.OK || err2 != api.OK {
				continue
			}
			seen++
			if !In(part, result) {
				t.Fatalf("%s of %v, %v to %d bits has not all of %v, %v", name, a, b, prec, c, d)
			}
		}
		k := s.below(api.MaxDeg + 1)
		result, err1 := Pow(a, k, prec)
		part, err2 := Pow(c, k, prec)
		if err1 == api.OK && err2 == api.OK && !In(part, result) {
			t.Fatalf("Pow(%v, %d, %d) has not all of %v", a, k, prec, c)
		}
	}
	if seen < 5000 {
		t.Errorf("only %d results", seen)
	}
}
