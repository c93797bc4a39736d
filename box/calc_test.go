package box

import (
	"math"
	"slices"
	"testing"

	"fathomline/api"
	"fathomline/iv"
	"fathomline/num"
)

// P6.2

// inside are values of prec in range, both bounds among them.
func inside() []int {
	return []int{api.MinPrec, api.MinPrec + 1, 63, 64, 65, 128, api.MaxPrec - 1, api.MaxPrec}
}

// outside are values of prec that are out of range.
func outside() []int {
	return []int{api.MinPrec - 1, api.MaxPrec + 1, 0, 1, -1, -api.MinPrec, -api.MaxPrec, math.MaxInt32, math.MaxInt, math.MinInt}
}

type binaryOperation func(a, b []api.Iv, prec int) ([]api.Iv, api.Errno)

// binary are the operations on two boxes with a prec, by name.
func binary() map[string]binaryOperation {
	return map[string]binaryOperation{"Add": Add, "Sub": Sub}
}

// result is all that an operation on one box may return.
type result struct {
	boxes [2][]api.Iv
	point []api.Num
	width api.Num
}

func (r result) isEmpty() bool {
	return len(r.boxes[0]) == 0 && len(r.boxes[1]) == 0 && len(r.point) == 0 && equal(r.width, api.Num{})
}

func (r result) equals(s result) bool {
	return equalBox(r.boxes[0], s.boxes[0]) && equalBox(r.boxes[1], s.boxes[1]) && equalPoint(r.point, s.point) && equal(r.width, s.width)
}

type unaryOperation func(b []api.Iv, prec int) (result, api.Errno)

// unary are the operations on one box, by name.
func unary() map[string]unaryOperation {
	return map[string]unaryOperation{
		"Times": timesBy(ints(-1, 2)),
		"Mid": func(b []api.Iv, prec int) (result, api.Errno) {
			p, err := Mid(b, prec)
			return result{point: p}, err
		},
		"Wide": func(b []api.Iv, prec int) (result, api.Errno) {
			x, err := Wide(b, prec)
			return result{width: x}, err
		},
		"Blow": func(b []api.Iv, prec int) (result, api.Errno) {
			c, err := Blow(b, prec)
			return result{boxes: [2][]api.Iv{c}}, err
		},
		"Halve": func(b []api.Iv, prec int) (result, api.Errno) {
			c, d, err := Halve(b, prec)
			return result{boxes: [2][]api.Iv{c, d}}, err
		},
	}
}

func timesBy(x api.Iv) unaryOperation {
	return func(b []api.Iv, prec int) (result, api.Errno) {
		c, err := Times(x, b, prec)
		return result{boxes: [2][]api.Iv{c}}, err
	}
}

func TestAddSub(t *testing.T) {
	a, b := boxOf(ints(0, 2), ints(5, 7), ints(257, 257)), boxOf(ints(1, 4), ints(-1, 6), ints(0, 2))
	for _, x := range []struct {
		name string
		prec int
		want []api.Iv
	}{
		{"Add", 8, boxOf(ints(1, 6), ints(4, 13), ints(256, 260))},
		{"Add", 9, boxOf(ints(1, 6), ints(4, 13), ints(257, 259))},
		{"Add", 256, boxOf(ints(1, 6), ints(4, 13), ints(257, 259))},
		{"Sub", 8, boxOf(ints(-4, 1), ints(-1, 8), ints(255, 258))},
		{"Sub", 9, boxOf(ints(-4, 1), ints(-1, 8), ints(255, 257))},
	} {
		if got, err := binary()[x.name](a, b, x.prec); err != api.OK || !equalBox(got, x.want) {
			t.Errorf("%s to %d bits = %v, %d", x.name, x.prec, got, err)
		}
	}
}

func TestTimes(t *testing.T) {
	b := boxOf(ints(0, 2), ints(5, 7), ints(-4, 3), ints(-257, -257))
	for _, x := range []struct {
		x    api.Iv
		prec int
		want []api.Iv
	}{
		{ints(-1, 2), 8, boxOf(ints(-2, 4), ints(-7, 14), ints(-8, 6), ints(-516, 258))},
		{ints(-1, 2), 9, boxOf(ints(-2, 4), ints(-7, 14), ints(-8, 6), ints(-514, 257))},
		{ints(0, 0), 8, allOf(4, ints(0, 0))},
		{ints(1, 1), 8, boxOf(ints(0, 2), ints(5, 7), ints(-4, 3), ints(-258, -256))},
		{ints(-3, -2), 9, boxOf(ints(-6, 0), ints(-21, -10), ints(-9, 12), ints(514, 772))},
	} {
		if got, err := Times(x.x, b, x.prec); err != api.OK || !equalBox(got, x.want) {
			t.Errorf("Times(%v) to %d bits = %v, %d", x.x, x.prec, got, err)
		}
	}
}

func TestMid(t *testing.T) {
	b := boxOf(ints(0, 2), ints(5, 8), ints(-3, -3), ints(0, 1023))
	for _, x := range []struct {
		prec int
		last int64 // twice the last number
	}{{8, 1020}, {9, 1022}, {10, 1023}, {256, 1023}} {
		want := pointOf(of(1, 0), of(13, -1), of(-3, 0), odd(x.last, -1))
		if got, err := Mid(b, x.prec); err != api.OK || !equalPoint(got, want) {
			t.Errorf("Mid to %d bits = %v, %d", x.prec, got, err)
		}
	}
	// Where no number of so many bits is in an interval, its Lo is the middle.
	if got, err := Mid(boxOf(ints(0, 2), ints(257, 257)), 8); err != api.OK || !equalPoint(got, pointOf(of(1, 0), of(257, 0))) {
		t.Errorf("Mid = %v, %d", got, err)
	}
}

func TestWide(t *testing.T) {
	tiny := from(api.Num{}, of(1, -maxExp))
	for _, x := range []struct {
		b    []api.Iv
		prec int
		want api.Num
	}{
		{boxOf(ints(0, 2), ints(5, 9), ints(1, 4)), 8, of(1, 2)},
		{boxOf(ints(5, 9), ints(0, 2), ints(1, 4)), 8, of(1, 2)},
		{boxOf(ints(0, 2), ints(1, 4), ints(-9, -5)), 8, of(1, 2)},
		{boxOf(ints(0, 4), ints(5, 9), ints(-2, 2)), 8, of(1, 2)}, // several are equally wide
		{boxOf(ints(7, 7)), 8, api.Num{}},
		{allOf(4, ints(7, 7)), 8, api.Num{}},
		{boxOf(ints(9, 9), tiny, ints(-9, -9)), 8, of(1, -maxExp)},
		{boxOf(tiny, ints(0, 1)), 8, of(1, 0)},
		{boxOf(ints(-100, -100), ints(0, 1)), 8, of(1, 0)}, // the width counts, not the ends
		{boxOf(ints(0, 256), ints(0, 257)), 8, of(129, 1)},
		{boxOf(ints(0, 257), ints(0, 256)), 9, of(257, 0)},
		{boxOf(ints(0, 257), ints(0, 258)), 8, of(129, 1)},
		{boxOf(ints(0, 1), point(full(maxBits, maxExp))), 256, of(1, 0)},
		{boxOf(ints(0, 1), from(of(-1, maxExp-1), of(1, maxExp-1))), 256, of(1, maxExp)},
	} {
		if got, err := Wide(x.b, x.prec); err != api.OK || !equal(got, x.want) {
			t.Errorf("Wide(%v, %d) = %v, %d", x.b, x.prec, got, err)
		}
	}
}

func TestInvalid(t *testing.T) {
	for name, call := range unary() {
		for rule, b := range invalidBoxes() {
			for _, prec := range []int{api.MinPrec, 64, api.MaxPrec, api.MinPrec - 1} {
				if got, err := call(b, prec); err != api.ErrForm || !got.isEmpty() {
					t.Errorf("%s to %d bits: %s: %v, %d", name, prec, rule, got, err)
				}
			}
		}
	}
	for rule, x := range invalidIvs() {
		for _, b := range append(validBoxes(), allOf(2, ints(2, 1)), nil) {
			if got, err := Times(x, b, 8); err != api.ErrForm || len(got) != 0 {
				t.Errorf("Times(%v, %v): %s: %v, %d", x, b, rule, got, err)
			}
		}
	}
}

// TestPrec: both bounds are in range, and ErrForm goes ahead of ErrOver.
func TestPrec(t *testing.T) {
	for _, b := range validBoxes() {
		for _, prec := range outside() {
			for name, call := range binary() {
				if got, err := call(b, b, prec); err != api.ErrForm || len(got) != 0 {
					t.Errorf("%s of %v to %d bits: %v, %d", name, b, prec, got, err)
				}
			}
			for name, call := range unary() {
				if got, err := call(b, prec); err != api.ErrForm || !got.isEmpty() {
					t.Errorf("%s of %v to %d bits: %v, %d", name, b, prec, got, err)
				}
			}
		}
	}
	b := boxOf(ints(0, 3), ints(-5, 8))
	for _, prec := range inside() {
		for name, call := range binary() {
			if got, err := call(b, b, prec); err != api.OK || len(got) != 2 {
				t.Errorf("%s to %d bits: %v, %d", name, prec, got, err)
			}
		}
		for name, call := range unary() {
			if got, err := call(b, prec); err != api.OK || got.isEmpty() {
				t.Errorf("%s to %d bits: %v, %d", name, prec, got, err)
			}
		}
	}
}

// TestFormBehindOver: an interval that is not valid counts, even if what
// stands ahead of it is too great for the operation.
func TestFormBehindOver(t *testing.T) {
	high := from(minus(full(maxBits, maxExp)), full(maxBits, maxExp))
	for rule, x := range invalidIvs() {
		for i := 1; i < api.MaxDim; i++ {
			for name, call := range unary() {
				if got, err := call(but(allOf(4, high), i, x), 8); err != api.ErrForm || !got.isEmpty() {
					t.Errorf("%s: %s at %d: %v, %d", name, rule, i, got, err)
				}
			}
		}
	}
}

// TestOver has boxes for whose interval at one index alone, each in turn, the
// operation fails.
func TestOver(t *testing.T) {
	low, top, high := of(1, -maxExp), of(1, maxExp), of(255, maxExp)
	calls := unary()
	calls["Times"] = timesBy(ints(1, 2))
	calls["Add"] = func(b []api.Iv, prec int) (result, api.Errno) {
		c, err := Add(b, b, prec)
		return result{boxes: [2][]api.Iv{c}}, err
	}
	calls["Sub"] = func(b []api.Iv, prec int) (result, api.Errno) {
		c, err := Sub(b, allOf(len(b), from(minus(top), top)), prec)
		return result{boxes: [2][]api.Iv{c}}, err
	}
	for _, x := range []struct {
		name string
		a    api.Iv
	}{
		{"Add", point(top)}, {"Add", from(api.Num{}, top)}, {"Add", from(minus(top), api.Num{})},
		{"Sub", point(top)}, {"Sub", from(api.Num{}, top)}, {"Sub", from(minus(top), api.Num{})},
		{"Times", point(top)}, {"Times", from(api.Num{}, top)}, {"Times", from(minus(top), api.Num{})},
		{"Mid", from(api.Num{}, low)}, {"Mid", from(minus(low), api.Num{})}, {"Mid", from(top, of(3, maxExp))},
		{"Wide", from(minus(top), top)}, {"Wide", from(api.Num{}, of(511, maxExp-1))},
		{"Blow", from(api.Num{}, low)}, {"Blow", from(api.Num{}, high)}, {"Blow", from(minus(top), top)},
		{"Halve", from(minus(top), top)}, {"Halve", from(of(255, maxExp), of(257, maxExp))},
	} {
		for n := 1; n <= api.MaxDim; n++ {
			for i := range n {
				b := allOf(n, ints(0, 0))
				if got, err := calls[x.name](b, 8); err != api.OK || got.isEmpty() != (x.name == "Wide") {
					t.Errorf("%s of %v = %v, %d", x.name, b, got, err)
				}
				if got, err := calls[x.name](but(b, i, x.a), 8); err != api.ErrOver || !got.isEmpty() {
					t.Errorf("%s of %v = %v, %d", x.name, but(b, i, x.a), got, err)
				}
			}
		}
	}
}

// TestFactorAndBoxBelowLeast: a product below the least number is ErrOver too.
func TestFactorAndBoxBelowLeast(t *testing.T) {
	half := point(of(1, -1))
	if got, err := Times(half, boxOf(ints(0, 4), point(of(1, -maxExp))), 8); err != api.ErrOver || len(got) != 0 {
		t.Errorf("Times = %v, %d", got, err)
	}
	if got, err := Times(half, boxOf(ints(0, 4), point(of(1, 1-maxExp))), 8); err != api.OK || !equalBox(got, boxOf(ints(0, 2), point(of(1, -maxExp)))) {
		t.Errorf("Times = %v, %d", got, err)
	}
}

// source yields the same words in every run.
type source uint64

func (s *source) next() uint64 {
	*s += 0x9e3779b97f4a7c15
	x := uint64(*s)
	x = (x ^ x>>30) * 0xbf58476d1ce4e5b9
	x = (x ^ x>>27) * 0x94d049bb133111eb
	return x ^ x>>31
}

func (s *source) below(n int) int { return int(s.next() % uint64(n)) }

// number is valid: mostly of few words and near 1, sometimes not.
func (s *source) number() api.Num {
	w := make([]uint64, s.below(4))
	if s.below(12) == 0 {
		w = make([]uint64, api.MaxWords)
	}
	if len(w) == 0 {
		return api.Num{}
	}
	for i := range w {
		w[i] = s.next() >> s.below(64)
	}
	w[0] |= 1
	w[len(w)-1] |= 1
	exp := int64(s.below(100)) - 50 - 64*int64(len(w))
	switch s.below(12) {
	case 0:
		exp = maxExp - int64(s.below(2))
	case 1:
		exp = int64(s.below(4)) - maxExp
	}
	return api.Num{Neg: s.below(2) == 0, Exp: exp, W: w}
}

// interval is valid, and sometimes a point.
func (s *source) interval() api.Iv {
	x, y := s.number(), s.number()
	if s.below(6) == 0 {
		y = x
	}
	if num.Cmp(x, y) > 0 {
		x, y = y, x
	}
	return from(x, y)
}

// box is valid; some of its intervals may be the same.
func (s *source) box(n int) []api.Iv {
	b := make([]api.Iv, n)
	for i := range b {
		b[i] = s.interval()
		if i > 0 && s.below(4) == 0 {
			b[i] = b[i-1]
		}
	}
	return b
}

func (s *source) prec() int {
	if s.below(2) == 0 {
		return inside()[s.below(len(inside()))]
	}
	return api.MinPrec + s.below(api.MaxPrec-api.MinPrec+1)
}

// byIndex is what a function of package iv returns for each pair of intervals.
func byIndex(a, b []api.Iv, f func(x, y api.Iv) (api.Iv, api.Errno)) ([]api.Iv, api.Errno) {
	var list []api.Iv
	for i := range a {
		x, err := f(a[i], b[i])
		if err != api.OK {
			return nil, err
		}
		list = append(list, x)
	}
	return list, api.OK
}

// TestAgainstIntervals: the results are those of package iv at each index.
func TestAgainstIntervals(t *testing.T) {
	s := source(1)
	for range 3000 {
		n, prec := 1+s.below(api.MaxDim), s.prec()
		a, b, x := s.box(n), s.box(n), s.interval()
		for name, f := range map[string]struct {
			call func() ([]api.Iv, api.Errno)
			want func(x, y api.Iv) (api.Iv, api.Errno)
		}{
			"Hull":  {func() ([]api.Iv, api.Errno) { return Hull(a, b) }, iv.Hull},
			"Meet":  {func() ([]api.Iv, api.Errno) { return Meet(a, b) }, iv.Meet},
			"Add":   {func() ([]api.Iv, api.Errno) { return Add(a, b, prec) }, func(x, y api.Iv) (api.Iv, api.Errno) { return iv.Add(x, y, prec) }},
			"Sub":   {func() ([]api.Iv, api.Errno) { return Sub(a, b, prec) }, func(x, y api.Iv) (api.Iv, api.Errno) { return iv.Sub(x, y, prec) }},
			"Times": {func() ([]api.Iv, api.Errno) { return Times(x, b, prec) }, func(_, y api.Iv) (api.Iv, api.Errno) { return iv.Mul(x, y, prec) }},
			"Blow":  {func() ([]api.Iv, api.Errno) { return Blow(b, prec) }, func(_, y api.Iv) (api.Iv, api.Errno) { return blown(y, prec) }},
		} {
			want, wantErr := byIndex(a, b, f.want)
			if got, err := f.call(); err != wantErr || !equalBox(got, want) {
				t.Fatalf("%s of %v, %v (Times: %v) to %d bits = %v, %d, not %v, %d", name, a, b, x, prec, got, err, want, wantErr)
			}
		}
		checkMeasures(t, b, prec)
	}
}

func checkMeasures(t *testing.T, b []api.Iv, prec int) {
	t.Helper()
	var mids, widths []api.Num
	midErr, wideErr := api.OK, api.OK
	for _, x := range b {
		mid, err1 := iv.Mid(x, prec)
		width, err2 := iv.Wide(x, prec)
		mids, widths = append(mids, mid), append(widths, width)
		midErr, wideErr = max(midErr, err1), max(wideErr, err2)
	}
	if midErr != api.OK {
		mids = nil
	}
	if got, err := Mid(b, prec); err != midErr || !equalPoint(got, mids) {
		t.Fatalf("Mid(%v, %d) = %v, %d", b, prec, got, err)
	}
	widest := slices.MaxFunc(widths, num.Cmp)
	if wideErr != api.OK {
		widest = api.Num{}
	}
	if got, err := Wide(b, prec); err != wideErr || !equal(got, widest) {
		t.Fatalf("Wide(%v, %d) = %v, %d", b, prec, got, err)
	}
}
