package box

import (
	"slices"
	"testing"

	"fathomline/api"
)

// General rule 3 of DOC.md: arguments are neither modified nor retained, and
// results are newly allocated.

const (
	spare = 3
	mark  = 0xabcdef
)

// withSpare is x with marks in the spare capacity of its words.
func withSpare(x api.Num) api.Num {
	memory := slices.Repeat([]uint64{mark}, len(x.W)+spare)
	copy(memory, x.W)
	x.W = memory[:len(x.W)]
	return x
}

// argument is a box and a point with room behind them.
type argument struct {
	box   []api.Iv
	point []api.Num
}

func newArgument(b []api.Iv) argument {
	filler := point(of(mark, 0))
	var x argument
	for _, a := range append(slices.Clone(b), allOf(spare, filler)...) {
		x.box = append(x.box, from(withSpare(a.Lo), withSpare(a.Hi)))
		x.point = append(x.point, withSpare(a.Hi))
	}
	x.box, x.point = x.box[:len(b)], x.point[:len(b)]
	return x
}

// isThatOf reports whether all memory of x is as it was made from b.
func (x argument) isThatOf(b []api.Iv) bool {
	y := newArgument(b)
	if len(x.box) != len(y.box) || len(x.point) != len(y.point) {
		return false
	}
	return slices.EqualFunc(x.numbers(), y.numbers(), func(v, w api.Num) bool {
		n := len(w.W) + spare
		return equal(v, w) && slices.Equal(v.W[:n], w.W[:n])
	})
}

// numbers are all numbers of x, those behind the box and the point too.
func (x argument) numbers() []api.Num {
	n := len(x.box) + spare
	list := slices.Clone(x.point[:n])
	for _, a := range x.box[:n] {
		list = append(list, a.Lo, a.Hi)
	}
	return list
}

// calls are all functions with boxes, points or numbers as results, by name.
func calls() map[string]func(a, b argument, prec int) (result, api.Errno) {
	list := map[string]func(a, b argument, prec int) (result, api.Errno){}
	for name, call := range unary() {
		list[name] = func(a, _ argument, prec int) (result, api.Errno) { return call(a.box, prec) }
	}
	for name, call := range binary() {
		list[name] = func(a, b argument, prec int) (result, api.Errno) {
			c, err := call(a.box, b.box, prec)
			return result{boxes: [2][]api.Iv{c}}, err
		}
	}
	for name, call := range setOperations() {
		list[name] = func(a, b argument, _ int) (result, api.Errno) {
			c, err := call(a.box, b.box)
			return result{boxes: [2][]api.Iv{c}}, err
		}
	}
	list["Of"] = func(a, _ argument, _ int) (result, api.Errno) {
		return result{boxes: [2][]api.Iv{Of(a.point)}}, api.OK
	}
	list["Times by a part"] = func(a, b argument, prec int) (result, api.Errno) {
		if len(a.box) == 0 {
			return result{}, api.ErrForm
		}
		c, err := Times(a.box[0], b.box, prec)
		return result{boxes: [2][]api.Iv{c}}, err
	}
	return list
}

func ask(a, b argument) {
	Right(a.box)
	Same(a.box, b.box)
	In(a.box, b.box)
	Has(a.box, b.point)
}

// numbers are the places of all numbers of a result.
func (r *result) numbers() []*api.Num {
	list := []*api.Num{&r.width}
	for i := range r.point {
		list = append(list, &r.point[i])
	}
	for _, b := range r.boxes {
		for i := range b {
			list = append(list, &b[i].Lo, &b[i].Hi)
		}
	}
	return list
}

// overwrite changes the number and all memory that it reaches. Changed again,
// shared words are not what they were.
func overwrite(x *api.Num) {
	w := x.W[:cap(x.W)]
	for i := range w {
		w[i]++
	}
	*x = api.Num{Neg: true, Exp: -99}
}

// overwrite changes all memory that the result reaches.
func (r *result) overwrite() {
	for i, b := range r.boxes {
		r.boxes[i] = b[:cap(b)]
	}
	r.point = r.point[:cap(r.point)]
	for _, x := range r.numbers() {
		overwrite(x)
	}
}

// memoryBoxes are boxes of few and of many bits, and ones that are not valid.
func memoryBoxes() [][]api.Iv {
	return [][]api.Iv{
		nil, {ints(1, 1)}, {ints(0, 0)}, {ints(-1, 2)}, {point(full(192, 1))},
		{ints(3, 5), ints(257, 259)}, {ints(4, 4), ints(-300, 258)}, {ints(5, 5), ints(5, 5)}, {ints(3, 5), ints(3, 5)},
		{ints(0, 1), from(full(65, 7), wide(maxBits, 0)), ints(0, 257)},
		{ints(0, 257), ints(3, 3), from(minus(wide(129, 0)), full(192, 1)), ints(0, 257)},
		{ints(2, 1), ints(3, 4)}, {point(api.Num{W: []uint64{12, 0}})}, allOf(5, ints(0, 3)),
	}
}

func TestArgumentsAreTheCallers(t *testing.T) {
	for name, call := range calls() {
		for _, a := range memoryBoxes() {
			for _, b := range memoryBoxes() {
				for _, prec := range []int{7, 8, 256} {
					x, y := newArgument(a), newArgument(b)
					r, _ := call(x, y, prec)
					ask(x, y)
					if !x.isThatOf(a) || !y.isThatOf(b) {
						t.Fatalf("%s of %v, %v to %d bits modifies an argument", name, a, b, prec)
					}
					r.overwrite()
					if !x.isThatOf(a) || !y.isThatOf(b) {
						t.Fatalf("%s of %v, %v to %d bits returns memory of an argument", name, a, b, prec)
					}
				}
			}
		}
	}
}

// TestOneArgumentTwice passes a box as both operands, and one that begins
// within the other.
func TestOneArgumentTwice(t *testing.T) {
	long := boxOf(ints(-3, 257), ints(5, 5), ints(0, 9), ints(-1, 1))
	for name, call := range calls() {
		for _, x := range [][2][2]int{{{0, 4}, {0, 4}}, {{0, 3}, {1, 4}}, {{1, 3}, {0, 2}}} {
			whole := newArgument(long)
			part := func(k int) argument {
				i, j := x[k][0], x[k][1]
				return argument{whole.box[i:j], whole.point[i:j]}
			}
			got, err := call(part(0), part(1), 8)
			want, wantErr := call(newArgument(part(0).box), newArgument(part(1).box), 8)
			if err != wantErr || !got.equals(want) {
				t.Errorf("%s of parts %v: %v, %d, not %v, %d", name, x, got, err, want, wantErr)
			}
			got.overwrite()
			if !whole.isThatOf(long) {
				t.Fatalf("%s of parts %v returns or modifies its memory", name, x)
			}
		}
	}
}

// TestNumbersAreApart: what is done to one number of a result changes no other
// one, be it in the same box or in the other half.
func TestNumbersAreApart(t *testing.T) {
	for name, call := range calls() {
		for _, a := range memoryBoxes() {
			for _, b := range memoryBoxes() {
				r, _ := call(newArgument(a), newArgument(b), 8)
				want, _ := call(newArgument(a), newArgument(b), 8)
				others := want.numbers()
				for i, x := range r.numbers() {
					overwrite(x)
					*others[i] = *x
					if !r.equals(want) {
						t.Fatalf("%s of %v, %v: number %d is shared", name, a, b, i)
					}
				}
			}
		}
	}
}

// TestResultsAreApart: what is done to a result changes no later one.
func TestResultsAreApart(t *testing.T) {
	for name, call := range calls() {
		for _, b := range memoryBoxes() {
			x := newArgument(b)
			first, err1 := call(x, x, 8)
			first.overwrite()
			got, err2 := call(x, x, 8)
			want, err3 := call(newArgument(b), newArgument(b), 8)
			if err1 != err2 || err2 != err3 || !got.equals(want) {
				t.Errorf("results of %s of %v share memory", name, b)
			}
		}
	}
}
