package box

import (
	"math"
	"slices"
	"testing"

	"fathomline/api"
)

const (
	all     = math.MaxUint64
	maxBits = 64 * api.MaxWords
	maxExp  = api.MaxExp
)

// of is m times 2^exp, as it is written: valid if m is odd.
func of(m, exp int64) api.Num {
	if m < 0 {
		return api.Num{Neg: true, Exp: exp, W: []uint64{-uint64(m)}}
	}
	return api.Num{Exp: exp, W: []uint64{uint64(m)}}
}

// odd is the valid number m times 2^exp.
func odd(m, exp int64) api.Num {
	if m == 0 {
		return api.Num{}
	}
	for m%2 == 0 {
		m, exp = m/2, exp+1
	}
	return of(m, exp)
}

// minus is -x; a 0 stays as it is.
func minus(x api.Num) api.Num {
	x.Neg = !x.Neg && len(x.W) > 0
	return x
}

// wide is 2^(bits-1) + 1 times 2^exp: that many bits, the outer ones 1.
func wide(bits int, exp int64) api.Num {
	w := make([]uint64, (bits+63)/64)
	w[(bits-1)/64] = 1 << ((bits - 1) % 64)
	w[0] |= 1
	return api.Num{Exp: exp, W: w}
}

// full is 2^bits - 1 times 2^exp.
func full(bits int, exp int64) api.Num {
	w := slices.Repeat([]uint64{all}, (bits+63)/64)
	w[len(w)-1] >>= uint(64*len(w) - bits)
	return api.Num{Exp: exp, W: w}
}

func from(lo, hi api.Num) api.Iv { return api.Iv{Lo: lo, Hi: hi} }

func point(x api.Num) api.Iv { return from(x, x) }

// ints is the interval from lo to hi.
func ints(lo, hi int64) api.Iv { return from(odd(lo, 0), odd(hi, 0)) }

func boxOf(b ...api.Iv) []api.Iv { return b }

func pointOf(p ...api.Num) []api.Num { return p }

// allOf is the box of n times the same interval.
func allOf(n int, a api.Iv) []api.Iv { return slices.Repeat([]api.Iv{a}, n) }

// but is b with another interval at index i.
func but(b []api.Iv, i int, a api.Iv) []api.Iv {
	b = slices.Clone(b)
	b[i] = a
	return b
}

func equal(a, b api.Num) bool {
	return a.Neg == b.Neg && a.Exp == b.Exp && slices.Equal(a.W, b.W)
}

func equalIv(a, b api.Iv) bool { return equal(a.Lo, b.Lo) && equal(a.Hi, b.Hi) }

func equalBox(a, b []api.Iv) bool { return slices.EqualFunc(a, b, equalIv) }

func equalPoint(a, b []api.Num) bool { return slices.EqualFunc(a, b, equal) }

// invalid are numbers that are not valid (P2.1), by the reason.
func invalid() map[string]api.Num {
	return map[string]api.Num{
		"0 that is negated":      {Neg: true},
		"0 with an exponent":     {Exp: 1},
		"highest word 0":         {W: []uint64{1, 0}},
		"lowest bit 0":           of(2, 0),
		"one word too many":      wide(maxBits+1, 0),
		"exponent above MaxExp":  of(1, maxExp+1),
		"exponent below -MaxExp": of(-1, -maxExp-1),
	}
}

// invalidIvs are intervals that are not valid (P5.1), by the reason.
func invalidIvs() map[string]api.Iv {
	ivs := map[string]api.Iv{
		"Lo greater than Hi":         ints(2, 1),
		"Lo above 0, Hi below":       ints(1, -1),
		"Lo 0, Hi below 0":           ints(0, -1),
		"Lo greater in the last bit": from(wide(maxBits, 0), of(1, maxBits-1)),
	}
	for rule, x := range invalid() {
		ivs["Lo: "+rule] = from(x, of(1, 9))
		ivs["Hi: "+rule] = from(of(-1, 9), x)
		ivs["both: "+rule] = point(x)
	}
	return ivs
}

// validIvs are intervals below, above, at and around 0, of all sizes.
func validIvs() []api.Iv {
	return []api.Iv{
		{}, {Lo: api.Num{W: []uint64{}}}, ints(1, 1), ints(-1, 1), ints(0, 1), ints(-1, 0), ints(3, 7), ints(-7, -3),
		from(of(1, -maxExp), of(1, maxExp)), from(of(-1, maxExp), of(-1, -maxExp)),
		point(full(maxBits, maxExp)), from(minus(full(maxBits, maxExp)), full(maxBits, maxExp)),
	}
}

// invalidBoxes are boxes that are not valid, by the reason.
func invalidBoxes() map[string][]api.Iv {
	boxes := map[string][]api.Iv{
		"nil":                     nil,
		"no interval":             {},
		"no interval, but room":   make([]api.Iv, 0, api.MaxDim),
		"MaxDim + 1 intervals":    allOf(api.MaxDim+1, ints(0, 1)),
		"MaxDim + 1 points":       make([]api.Iv, api.MaxDim+1),
		"twice MaxDim intervals":  allOf(2*api.MaxDim, ints(-1, 1)),
		"very many intervals":     allOf(1<<16, ints(0, 1)),
		"2^8 + MaxDim intervals":  allOf(1<<8+api.MaxDim, ints(0, 1)),
		"all intervals not valid": allOf(2, ints(2, 1)),
	}
	for rule, a := range invalidIvs() {
		for n := 1; n <= api.MaxDim; n++ {
			for i := range n {
				name := string(rune('0'+n)) + " intervals, at " + string(rune('0'+i)) + " " + rule
				boxes[name] = but(allOf(n, ints(0, 1)), i, a)
			}
		}
	}
	return boxes
}

// validBoxes are boxes of all lengths.
func validBoxes() [][]api.Iv {
	var boxes [][]api.Iv
	ivs := validIvs()
	for n := 1; n <= api.MaxDim; n++ {
		for k := range ivs {
			b := make([]api.Iv, n)
			for i := range b {
				b[i] = ivs[(k+i*5)%len(ivs)]
			}
			boxes = append(boxes, b)
		}
	}
	return boxes
}

// P6.1

func TestRight(t *testing.T) {
	for _, b := range validBoxes() {
		if !Right(b) {
			t.Errorf("%v is not valid", b)
		}
	}
	for rule, b := range invalidBoxes() {
		if Right(b) {
			t.Errorf("%s: valid", rule)
		}
	}
}

func TestOf(t *testing.T) {
	numbers := []api.Num{{}, of(1, 0), of(-3, 5), full(maxBits, -9), of(1, maxExp), of(-1, -maxExp)}
	for n := range len(numbers) + 1 {
		p := numbers[:n]
		got := Of(p)
		if len(got) != n || Right(got) != (1 <= n && n <= api.MaxDim) {
			t.Fatalf("Of(%v) = %v", p, got)
		}
		for i, x := range p {
			if !equalIv(got[i], point(x)) {
				t.Errorf("Of(%v) = %v", p, got)
			}
		}
	}
	if got := Of(nil); len(got) != 0 {
		t.Errorf("Of(nil) = %v", got)
	}
	for rule, x := range invalid() {
		want := boxOf(ints(3, 3), point(x), ints(-1, -1))
		if got := Of(pointOf(of(3, 0), x, of(-1, 0))); !equalBox(got, want) || Right(got) {
			t.Errorf("Of: %s: %v", rule, got)
		}
	}
}

// TestSame: only the fields count, not the values and not validity.
func TestSame(t *testing.T) {
	boxes := [][]api.Iv{
		nil, allOf(1, ints(0, 0)), allOf(2, ints(0, 0)), allOf(4, ints(0, 0)), allOf(5, ints(0, 0)), allOf(6, ints(0, 0)),
		{ints(1, 2)}, {ints(1, 3)}, {ints(0, 2)}, {ints(2, 1)}, {ints(-2, -1)}, {ints(1, 2), ints(3, 4)}, {ints(3, 4), ints(1, 2)},
		{ints(1, 2), ints(3, 4), ints(5, 6)}, {ints(1, 2), ints(3, 4), ints(5, 7)}, {ints(1, 2), ints(3, 5), ints(5, 6)}, {ints(0, 2), ints(3, 4), ints(5, 6)},
		{point(of(6, 0))}, {point(of(3, 1))}, {from(of(1, 0), of(4, 0))}, {from(of(1, 0), of(2, 1))},
	}
	for _, x := range invalid() {
		boxes = append(boxes, boxOf(point(x)), boxOf(ints(1, 2), from(x, of(5, 0))), boxOf(ints(1, 2), from(of(5, 0), x)))
	}
	for i, a := range boxes {
		for j, b := range boxes {
			if Same(a, b) != (i == j) {
				t.Errorf("Same(%v, %v) = %v", a, b, i != j)
			}
		}
	}
	if !Same(nil, []api.Iv{}) || !Same(make([]api.Iv, 0, 3), nil) {
		t.Error("a slice without intervals is not nil")
	}
	if !Same(boxOf(ints(0, 3), ints(5, 6)), make3(ints(0, 3), ints(5, 6))) {
		t.Error("boxes are compared by where they are")
	}
	for rule, b := range invalidBoxes() {
		if !Same(b, slices.Clone(b)) {
			t.Errorf("%s: not identical to itself", rule)
		}
	}
}

// make3 is a box of two intervals with room for a third one, and empty words
// in place of nil ones.
func make3(x, y api.Iv) []api.Iv {
	b := append(make([]api.Iv, 0, 3), x, y)
	for i := range b {
		b[i].Lo.W = append([]uint64{}, b[i].Lo.W...)
		b[i].Hi.W = append([]uint64{}, b[i].Hi.W...)
	}
	return b
}

func TestHas(t *testing.T) {
	b := boxOf(ints(-1, 2), ints(3, 3), ints(0, 4))
	for _, x := range []struct {
		p   []api.Num
		has bool
	}{
		{pointOf(odd(0, 0), odd(3, 0), odd(2, 0)), true},
		{pointOf(odd(-1, 0), odd(3, 0), odd(0, 0)), true},
		{pointOf(odd(2, 0), odd(3, 0), odd(4, 0)), true},
		{pointOf(of(1, -maxExp), odd(3, 0), full(maxBits, 2-maxBits)), true},
		{pointOf(of(-3, -1), odd(3, 0), odd(2, 0)), false},
		{pointOf(of(5, -1), odd(3, 0), odd(2, 0)), false},
		{pointOf(odd(0, 0), full(maxBits, 2-maxBits), odd(2, 0)), false},
		{pointOf(odd(0, 0), wide(maxBits, 2-maxBits), odd(2, 0)), false},
		{pointOf(odd(0, 0), odd(3, 0), of(-1, -maxExp)), false},
		{pointOf(odd(0, 0), odd(3, 0), of(9, -1)), false},
		{pointOf(odd(3, 0), odd(0, 0), odd(2, 0)), false},
		{nil, false}, {pointOf(), false}, {pointOf(odd(0, 0)), false}, {pointOf(odd(0, 0), odd(3, 0)), false},
		{pointOf(odd(0, 0), odd(3, 0), odd(2, 0), odd(0, 0)), false},
	} {
		if Has(b, x.p) != x.has {
			t.Errorf("Has(%v, %v) = %v", b, x.p, !x.has)
		}
	}
}

func TestHasInvalid(t *testing.T) {
	everything := from(minus(full(maxBits, maxExp)), full(maxBits, maxExp))
	for rule, x := range invalid() {
		for n := 1; n <= api.MaxDim; n++ {
			for i := range n {
				p := make([]api.Num, n)
				if !Has(allOf(n, everything), p) {
					t.Fatalf("a point of %d zeros is not in everything", n)
				}
				p[i] = x
				if Has(allOf(n, everything), p) || Has(but(allOf(n, everything), i, point(x)), p) {
					t.Errorf("Has a number at %d of %d: %s", i, n, rule)
				}
			}
		}
	}
	for rule, b := range invalidBoxes() {
		for _, p := range [][]api.Num{make([]api.Num, len(b)), slices.Repeat(pointOf(of(1, 0)), len(b)), los(b), nil} {
			if Has(b, p) {
				t.Errorf("%s: has a point", rule)
			}
		}
	}
}

// los are the lower ends of b.
func los(b []api.Iv) []api.Num {
	p := make([]api.Num, len(b))
	for i, x := range b {
		p[i] = x.Lo
	}
	return p
}

// span is the interval from lo to hi, which are small.
type span struct{ lo, hi int64 }

func (s span) iv() api.Iv { return ints(s.lo, s.hi) }

func spans(most int64) []span {
	var list []span
	for lo := int64(0); lo <= most; lo++ {
		for hi := lo; hi <= most; hi++ {
			list = append(list, span{lo, hi})
		}
	}
	return list
}

// TestSets crosses all boxes of two intervals of few integers: they are
// disjoint, nested, equal or share ends, at one index or at both.
func TestSets(t *testing.T) {
	list := spans(3)
	for _, p := range list {
		for _, q := range list {
			for _, r := range list {
				for _, s := range list {
					checkSets(t, [2]span{p, q}, [2]span{r, s})
				}
			}
		}
	}
}

func checkSets(t *testing.T, p, q [2]span) {
	t.Helper()
	in, empty := true, false
	var a, b, hull, meet []api.Iv
	for i := range p {
		a, b = append(a, p[i].iv()), append(b, q[i].iv())
		in = in && q[i].lo <= p[i].lo && p[i].hi <= q[i].hi
		lo, hi := max(p[i].lo, q[i].lo), min(p[i].hi, q[i].hi)
		empty = empty || lo > hi
		meet = append(meet, ints(lo, hi))
		hull = append(hull, ints(min(p[i].lo, q[i].lo), max(p[i].hi, q[i].hi)))
	}
	wantErr := api.OK
	if empty {
		meet, wantErr = nil, api.ErrEmpty
	}
	if In(a, b) != in {
		t.Errorf("In(%v, %v) = %v", a, b, !in)
	}
	if Same(a, b) != (p == q) {
		t.Errorf("Same(%v, %v) = %v", a, b, p != q)
	}
	if got, err := Hull(a, b); err != api.OK || !equalBox(got, hull) {
		t.Errorf("Hull(%v, %v) = %v, %d", a, b, got, err)
	}
	if got, err := Meet(a, b); err != wantErr || !equalBox(got, meet) {
		t.Errorf("Meet(%v, %v) = %v, %d", a, b, got, err)
	}
	for x := int64(0); x <= 3; x++ {
		for y := int64(0); y <= 3; y++ {
			want := p[0].lo <= x && x <= p[0].hi && p[1].lo <= y && y <= p[1].hi
			if Has(a, pointOf(odd(x, 0), odd(y, 0))) != want {
				t.Errorf("Has(%v, %d %d) = %v", a, x, y, !want)
			}
		}
	}
}

// TestSetsAtEachIndex has boxes of all lengths that differ at one index alone.
func TestSetsAtEachIndex(t *testing.T) {
	base := ints(0, 4)
	for _, x := range []struct {
		a, hull, meet api.Iv
		below, above  bool // a is a subset of base, base of a
		err           api.Errno
	}{
		{ints(0, 4), base, base, true, true, api.OK},
		{ints(1, 3), base, ints(1, 3), true, false, api.OK},
		{ints(0, 3), base, ints(0, 3), true, false, api.OK},
		{ints(-1, 5), ints(-1, 5), base, false, true, api.OK},
		{ints(0, 5), ints(0, 5), base, false, true, api.OK},
		{ints(2, 5), ints(0, 5), ints(2, 4), false, false, api.OK},
		{ints(4, 5), ints(0, 5), ints(4, 4), false, false, api.OK},
		{ints(-2, 0), ints(-2, 4), ints(0, 0), false, false, api.OK},
		{ints(5, 6), ints(0, 6), api.Iv{}, false, false, api.ErrEmpty},
		{ints(-2, -1), ints(-2, 4), api.Iv{}, false, false, api.ErrEmpty},
		{point(wide(maxBits, 3-maxBits)), from(api.Num{}, wide(maxBits, 3-maxBits)), api.Iv{}, false, false, api.ErrEmpty},
	} {
		for n := 1; n <= api.MaxDim; n++ {
			for i := range n {
				b := allOf(n, base)
				a := but(b, i, x.a)
				if In(a, b) != x.below || In(b, a) != x.above || Same(a, b) != equalIv(x.a, base) {
					t.Errorf("%v and %v: In %v, %v, Same %v", a, b, In(a, b), In(b, a), Same(a, b))
				}
				want := but(b, i, x.meet)
				if x.err != api.OK {
					want = nil
				}
				for _, pair := range [][2][]api.Iv{{a, b}, {b, a}} {
					if got, err := Hull(pair[0], pair[1]); err != api.OK || !equalBox(got, but(b, i, x.hull)) {
						t.Errorf("Hull of %v = %v, %d", pair, got, err)
					}
					if got, err := Meet(pair[0], pair[1]); err != x.err || !equalBox(got, want) {
						t.Errorf("Meet of %v = %v, %d", pair, got, err)
					}
				}
			}
		}
	}
}

type setOperation func(a, b []api.Iv) ([]api.Iv, api.Errno)

func setOperations() map[string]setOperation {
	return map[string]setOperation{"Hull": Hull, "Meet": Meet}
}

// expectNone: a and b are not operands of anything, nor is one in the other.
func expectNone(t *testing.T, a, b []api.Iv, what string) {
	t.Helper()
	if In(a, b) {
		t.Errorf("%s: In is true", what)
	}
	for name, call := range setOperations() {
		if got, err := call(a, b); err != api.ErrForm || len(got) != 0 {
			t.Errorf("%s: %s returns %v, %d", what, name, got, err)
		}
	}
	for name, call := range binary() {
		for _, prec := range []int{api.MinPrec, 64, api.MaxPrec, api.MinPrec - 1} {
			if got, err := call(a, b, prec); err != api.ErrForm || len(got) != 0 {
				t.Errorf("%s: %s to %d bits returns %v, %d", what, name, prec, got, err)
			}
		}
	}
}

func TestOperandsInvalid(t *testing.T) {
	for rule, a := range invalidBoxes() {
		fit := allOf(min(len(a), 9), ints(0, 1))
		for _, b := range [][]api.Iv{allOf(1, ints(0, 1)), allOf(api.MaxDim, ints(0, 1)), fit, nil, a, allOf(2, ints(8, 9))} {
			expectNone(t, a, b, rule+", first")
			expectNone(t, b, a, rule+", second")
		}
	}
}

func TestOperandsOfDifferentLengths(t *testing.T) {
	top := point(of(1, maxExp))
	for n := 1; n <= api.MaxDim; n++ {
		for m := 1; m <= api.MaxDim; m++ {
			if n == m {
				continue
			}
			expectNone(t, allOf(n, ints(0, 1)), allOf(m, ints(0, 1)), "lengths")
			expectNone(t, allOf(n, ints(0, 1)), allOf(m, ints(5, 6)), "lengths, disjoint")
			expectNone(t, allOf(n, top), allOf(m, top), "lengths, too great")
			expectNone(t, make([]api.Iv, n), make([]api.Iv, m), "lengths, of zeros")
		}
	}
}

// TestFormAheadOfOthers: an interval that is not valid counts, even if what
// stands ahead of it is disjoint or too great.
func TestFormAheadOfOthers(t *testing.T) {
	top, far := point(of(1, maxExp)), ints(5, 6)
	for rule, x := range invalidIvs() {
		for i := 1; i < api.MaxDim; i++ {
			expectNone(t, but(allOf(4, ints(0, 1)), i, x), allOf(4, far), rule+", behind disjoint ones")
			expectNone(t, allOf(4, far), but(allOf(4, ints(0, 1)), i, x), rule+", behind disjoint ones")
			expectNone(t, but(allOf(4, top), i, x), allOf(4, top), rule+", behind great ones")
			expectNone(t, allOf(4, top), but(allOf(4, top), i, x), rule+", behind great ones")
		}
	}
}
