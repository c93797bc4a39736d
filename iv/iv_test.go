package iv

import (
	"math"
	"slices"
	"testing"

	"fathomline/api"
)

const (
	all     = math.MaxUint64
	maxBits = 64 * api.MaxWords
	maxExp  = api.MaxExp
)

// of is m times 2^exp, as it is written: valid if m is odd.
func of(m, exp int64) api.Num {
	if m < 0 {
		return api.Num{Neg: true, Exp: exp, W: []uint64{-uint64(m)}}
	}
	return api.Num{Exp: exp, W: []uint64{uint64(m)}}
}

// odd is the valid number m times 2^exp.
func odd(m, exp int64) api.Num {
	if m == 0 {
		return api.Num{}
	}
	for m%2 == 0 {
		m, exp = m/2, exp+1
	}
	return of(m, exp)
}

func words(exp int64, w ...uint64) api.Num { return api.Num{Exp: exp, W: w} }

// minus is -x; a 0 stays as it is.
func minus(x api.Num) api.Num {
	x.Neg = !x.Neg && len(x.W) > 0
	return x
}

// wide is 2^(bits-1) + 1 times 2^exp: that many bits, the outer ones 1.
func wide(bits int, exp int64) api.Num {
	w := make([]uint64, (bits+63)/64)
	w[(bits-1)/64] = 1 << ((bits - 1) % 64)
	w[0] |= 1
	return api.Num{Exp: exp, W: w}
}

// full is 2^bits - 1 times 2^exp.
func full(bits int, exp int64) api.Num {
	w := slices.Repeat([]uint64{all}, (bits+63)/64)
	w[len(w)-1] >>= uint(64*len(w) - bits)
	return api.Num{Exp: exp, W: w}
}

// above is the least number of that many bits that is greater than 2^exp.
func above(bits int, exp int64) api.Num { return wide(bits, exp-int64(bits)+1) }

// below is the greatest number of that many bits that is less than 2^exp.
func below(bits int, exp int64) api.Num { return full(bits, exp-int64(bits)) }

func equal(a, b api.Num) bool {
	return a.Neg == b.Neg && a.Exp == b.Exp && slices.Equal(a.W, b.W)
}

func isZero(x api.Num) bool { return equal(x, api.Num{}) }

func equalIv(a, b api.Iv) bool { return equal(a.Lo, b.Lo) && equal(a.Hi, b.Hi) }

func isZeroIv(a api.Iv) bool { return equalIv(a, api.Iv{}) }

func from(lo, hi api.Num) api.Iv { return api.Iv{Lo: lo, Hi: hi} }

func point(x api.Num) api.Iv { return from(x, x) }

// ints is the interval from lo to hi.
func ints(lo, hi int64) api.Iv { return from(odd(lo, 0), odd(hi, 0)) }

// invalid are numbers that are not valid (P2.1), by the reason.
func invalid() map[string]api.Num {
	return map[string]api.Num{
		"0 that is negated":      {Neg: true},
		"0 with an exponent":     {Exp: 1},
		"0 of one word":          words(0, 0),
		"highest word 0":         words(0, 1, 0),
		"lowest bit 0":           of(2, 0),
		"lowest word 0":          words(0, 0, 1),
		"one word too many":      wide(maxBits+1, 0),
		"exponent above MaxExp":  of(1, maxExp+1),
		"exponent below -MaxExp": of(-1, -maxExp-1),
		"greatest exponent":      of(1, math.MaxInt64),
		"least exponent":         of(1, math.MinInt64),
	}
}

// invalidIvs are intervals that are not valid, by the reason.
func invalidIvs() map[string]api.Iv {
	ivs := map[string]api.Iv{
		"Lo greater than Hi":          ints(2, 1),
		"Lo greater than Hi, below 0": ints(-1, -2),
		"Lo above 0, Hi below":        ints(1, -1),
		"Lo above 0, Hi 0":            ints(1, 0),
		"Lo 0, Hi below 0":            ints(0, -1),
		"Lo greater in the last bit":  from(wide(maxBits, 0), of(1, maxBits-1)),
		"Lo greater by the exponent":  from(of(1, maxExp), of(1, -maxExp)),
	}
	for rule, x := range invalid() {
		ivs["Lo: "+rule] = from(x, of(1, 9))
		ivs["Hi: "+rule] = from(of(-1, 9), x)
		ivs["both: "+rule] = point(x)
		ivs["Lo beside 0: "+rule] = from(x, api.Num{})
		ivs["Hi beside 0: "+rule] = from(api.Num{}, x)
	}
	return ivs
}

// validIvs are intervals below, above, at and around 0, of all sizes.
func validIvs() []api.Iv {
	return []api.Iv{
		{}, {Lo: api.Num{W: []uint64{}}}, ints(1, 1), ints(-1, -1), ints(-1, 1), ints(0, 1), ints(-1, 0), ints(3, 7), ints(-7, -3), ints(-3, 7),
		from(of(1, -maxExp), of(1, maxExp)), from(of(-1, maxExp), of(-1, -maxExp)), from(of(-1, maxExp), of(1, -maxExp)), from(of(-1, -maxExp), of(1, maxExp)),
		point(full(maxBits, maxExp)), point(minus(full(maxBits, maxExp))), from(minus(full(maxBits, maxExp)), full(maxBits, maxExp)),
		from(of(1, maxBits-1), wide(maxBits, 0)), from(minus(wide(maxBits, 0)), of(-1, maxBits-1)), from(words(-64, 1, 1), words(-64, 3, 1)),
	}
}

// P5.1

func TestRight(t *testing.T) {
	for _, a := range validIvs() {
		if !Right(a) {
			t.Errorf("%v is not valid", a)
		}
	}
	for rule, a := range invalidIvs() {
		if Right(a) {
			t.Errorf("%s: %v is valid", rule, a)
		}
	}
}

func TestOf(t *testing.T) {
	for _, x := range []api.Num{{}, of(1, 0), of(-3, 5), full(maxBits, -9), of(1, maxExp)} {
		if got := Of(x); !equalIv(got, point(x)) || !Right(got) {
			t.Errorf("Of(%v) = %v", x, got)
		}
	}
	for rule, x := range invalid() {
		if got := Of(x); !equalIv(got, point(x)) || Right(got) {
			t.Errorf("Of: %s: %v", rule, got)
		}
	}
}

func TestMake(t *testing.T) {
	for _, a := range validIvs() {
		if got, err := Make(a.Lo, a.Hi); err != api.OK || !equalIv(got, a) {
			t.Errorf("Make of %v = %v, %d", a, got, err)
		}
	}
	for rule, a := range invalidIvs() {
		if got, err := Make(a.Lo, a.Hi); err != api.ErrForm || !isZeroIv(got) {
			t.Errorf("Make: %s: %v, %d", rule, got, err)
		}
	}
}

// TestSame: only the fields count, not the values and not validity.
func TestSame(t *testing.T) {
	ivs := []api.Iv{{}, ints(1, 1), ints(1, 3), ints(-1, 1), ints(-1, 3), ints(3, 1), from(of(1, 0), of(2, 0)), from(of(1, 0), of(1, 1))}
	for _, x := range invalid() {
		ivs = append(ivs, point(x), from(x, of(5, 0)), from(of(5, 0), x))
	}
	for i, a := range ivs {
		for j, b := range ivs {
			if Same(a, b) != (i == j) {
				t.Errorf("Same(%v, %v) = %v", a, b, i != j)
			}
		}
	}
	if !Same(api.Iv{}, api.Iv{Lo: api.Num{W: []uint64{}}, Hi: api.Num{W: make([]uint64, 0, 3)}}) {
		t.Error("empty words are not those of nil")
	}
	if !Same(from(of(3, 1), words(0, 5, 6)), from(of(3, 1), words(0, 5, 6))) {
		t.Error("words are compared by where they are")
	}
}

func TestHas(t *testing.T) {
	for _, x := range []struct {
		a   api.Iv
		x   api.Num
		has bool
	}{
		{ints(-1, 2), odd(-1, 0), true}, {ints(-1, 2), odd(2, 0), true}, {ints(-1, 2), odd(0, 0), true}, {ints(-1, 2), of(1, -maxExp), true},
		{ints(-1, 2), of(-3, -1), false}, {ints(-1, 2), of(17, -3), false}, {ints(-1, 2), of(15, -3), true}, {ints(-1, 2), of(-1, maxExp), false},
		{ints(3, 3), odd(3, 0), true}, {ints(3, 3), wide(maxBits, 2-maxBits), false}, {ints(3, 3), full(maxBits, 2-maxBits), false},
		{ints(2, 4), full(maxBits, 2-maxBits), true}, {ints(2, 4), above(maxBits, 2), false}, {ints(2, 4), below(maxBits, 1), false},
		{ints(0, 0), odd(0, 0), true}, {ints(0, 0), of(1, -maxExp), false}, {ints(0, 0), of(-1, -maxExp), false},
		{ints(0, 5), api.Num{W: []uint64{}}, true}, {ints(1, 5), odd(0, 0), false}, {ints(-5, -1), odd(0, 0), false},
	} {
		if Has(x.a, x.x) != x.has {
			t.Errorf("Has(%v, %v) = %v", x.a, x.x, !x.has)
		}
	}
	everything := from(minus(full(maxBits, maxExp)), full(maxBits, maxExp))
	for rule, x := range invalid() {
		if Has(everything, x) || Has(api.Iv{}, x) || Has(point(x), x) {
			t.Errorf("Has a number: %s", rule)
		}
	}
	for rule, a := range invalidIvs() {
		for _, x := range []api.Num{{}, of(1, 0), of(-1, 0), of(3, -1), a.Lo, a.Hi} {
			if Has(a, x) {
				t.Errorf("%s: Has(%v, %v)", rule, a, x)
			}
		}
	}
}

// TestSubsets crosses all intervals of few integers.
func TestSubsets(t *testing.T) {
	const most = 3
	for p := int64(-most); p <= most; p++ {
		for q := p; q <= most; q++ {
			for r := int64(-most); r <= most; r++ {
				for s := r; s <= most; s++ {
					a, b := ints(p, q), ints(r, s)
					if got, want := In(a, b), r <= p && q <= s; got != want {
						t.Errorf("In(%v, %v) = %v", a, b, got)
					}
					if got, want := Inside(a, b), r < p && q < s; got != want {
						t.Errorf("Inside(%v, %v) = %v", a, b, got)
					}
					if got, err := Hull(a, b); err != api.OK || !equalIv(got, ints(min(p, r), max(q, s))) {
						t.Errorf("Hull(%v, %v) = %v, %d", a, b, got, err)
					}
					lo, hi := max(p, r), min(q, s)
					want, wantErr := ints(lo, hi), api.OK
					if lo > hi {
						want, wantErr = api.Iv{}, api.ErrEmpty
					}
					if got, err := Meet(a, b); err != wantErr || !equalIv(got, want) {
						t.Errorf("Meet(%v, %v) = %v, %d", a, b, got, err)
					}
				}
			}
		}
	}
}

// TestSubsetsNear has ends that differ in their last bit alone.
func TestSubsetsNear(t *testing.T) {
	one, more, less := of(1, 0), above(maxBits, 0), below(maxBits, 0)
	for _, x := range []struct {
		a, b       api.Iv
		in, inside bool
		meet       api.Iv
		err        api.Errno
	}{
		{point(one), from(less, more), true, true, point(one), api.OK},
		{from(less, more), point(one), false, false, point(one), api.OK},
		{from(less, one), from(one, more), false, false, point(one), api.OK},
		{from(one, more), from(less, one), false, false, point(one), api.OK},
		{from(less, less), from(one, more), false, false, api.Iv{}, api.ErrEmpty},
		{from(more, more), from(less, one), false, false, api.Iv{}, api.ErrEmpty},
		{from(one, more), from(less, more), true, false, from(one, more), api.OK},
		{from(less, one), from(less, more), true, false, from(less, one), api.OK},
	} {
		got, err := Meet(x.a, x.b)
		if In(x.a, x.b) != x.in || Inside(x.a, x.b) != x.inside || err != x.err || !equalIv(got, x.meet) {
			t.Errorf("%v and %v: In %v, Inside %v, Meet %v, %d", x.a, x.b, In(x.a, x.b), Inside(x.a, x.b), got, err)
		}
		if got, err := Hull(x.a, x.b); err != api.OK || !In(x.a, got) || !In(x.b, got) {
			t.Errorf("Hull(%v, %v) = %v, %d", x.a, x.b, got, err)
		}
	}
}

func TestSubsetsInvalid(t *testing.T) {
	for rule, a := range invalidIvs() {
		for _, b := range append(validIvs(), a) {
			if In(a, b) || In(b, a) || Inside(a, b) || Inside(b, a) {
				t.Errorf("%s: a subset of or in %v", rule, b)
			}
			for name, call := range map[string]func(a, b api.Iv) (api.Iv, api.Errno){"Hull": Hull, "Meet": Meet} {
				if got, err := call(a, b); err != api.ErrForm || !isZeroIv(got) {
					t.Errorf("%s: %s with %v: %v, %d", rule, name, b, got, err)
				}
				if got, err := call(b, a); err != api.ErrForm || !isZeroIv(got) {
					t.Errorf("%s: %s of %v: %v, %d", rule, name, b, got, err)
				}
			}
		}
	}
}

func TestNegAndMag(t *testing.T) {
	high, tiny := full(maxBits, maxExp), of(1, -maxExp)
	for _, x := range []struct {
		a, neg api.Iv
		mag    api.Num
	}{
		{ints(0, 0), ints(0, 0), odd(0, 0)}, {ints(3, 5), ints(-5, -3), odd(5, 0)}, {ints(-5, -3), ints(3, 5), odd(5, 0)},
		{ints(-1, 2), ints(-2, 1), odd(2, 0)}, {ints(-5, 2), ints(-2, 5), odd(5, 0)}, {ints(-4, 4), ints(-4, 4), odd(4, 0)},
		{ints(0, 7), ints(-7, 0), odd(7, 0)}, {ints(-7, 0), ints(0, 7), odd(7, 0)},
		{from(minus(high), tiny), from(minus(tiny), high), high}, {from(minus(tiny), high), from(minus(high), tiny), high},
		{from(minus(above(maxBits, 3)), of(1, 3)), from(of(-1, 3), above(maxBits, 3)), above(maxBits, 3)},
	} {
		if got := Neg(x.a); !equalIv(got, x.neg) || !Right(got) {
			t.Errorf("Neg(%v) = %v", x.a, got)
		}
		if got := Mag(x.a); !equal(got, x.mag) {
			t.Errorf("Mag(%v) = %v", x.a, got)
		}
	}
	for rule, a := range invalidIvs() {
		if got := Neg(a); !isZeroIv(got) {
			t.Errorf("Neg: %s: %v", rule, got)
		}
		if got := Mag(a); !isZero(got) {
			t.Errorf("Mag: %s: %v", rule, got)
		}
	}
}
