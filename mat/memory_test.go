package mat

import (
	"slices"
	"testing"

	"fathomline/api"
)

// General rule 3 of DOC.md: arguments are neither modified nor retained, and
// results are newly allocated.

const (
	spare = 3
	mark  = 0xabcdef
)

// withSpare is x with marks in the spare capacity of its words.
func withSpare(x api.Num) api.Num {
	memory := slices.Repeat([]uint64{mark}, len(x.W)+spare)
	copy(memory, x.W)
	x.W = memory[:len(x.W)]
	return x
}

// withRoom is f of each element, with that of as many fillers behind them as
// there is room.
func withRoom[T, R any](list []T, filler T, f func(x T) R) []R {
	var all []R
	for _, x := range list {
		all = append(all, f(x))
	}
	for range spare {
		all = append(all, f(filler))
	}
	return all[:len(list):len(all)]
}

// argument is a matrix of intervals and one of numbers, with marks in all of
// their spare capacity.
type argument struct {
	m [][]api.Iv
	p [][]api.Num
}

func newArgument(m [][]api.Iv) argument {
	filler := ints(mark, mark)
	fillers := boxOf(filler)
	return argument{
		m: withRoom(m, fillers, func(r []api.Iv) []api.Iv {
			return withRoom(r, filler, func(a api.Iv) api.Iv { return from(withSpare(a.Lo), withSpare(a.Hi)) })
		}),
		p: withRoom(m, fillers, func(r []api.Iv) []api.Num {
			return withRoom(r, filler, func(a api.Iv) api.Num { return withSpare(a.Hi) })
		}),
	}
}

// isThatOf reports whether all memory of x is as it was made from m.
func (x argument) isThatOf(m [][]api.Iv) bool {
	y := newArgument(m)
	if len(x.m) != len(y.m) || len(x.p) != len(y.p) {
		return false
	}
	n := len(m) + spare
	return slices.EqualFunc(x.m[:n], y.m[:n], isSameRow) && slices.EqualFunc(x.p[:n], y.p[:n], isSameList)
}

func isSameRow(r, s []api.Iv) bool {
	n := len(s) + spare
	return len(r) == len(s) && slices.EqualFunc(r[:n], s[:n], func(a, b api.Iv) bool {
		return isSameNum(a.Lo, b.Lo) && isSameNum(a.Hi, b.Hi)
	})
}

func isSameList(r, s []api.Num) bool {
	n := len(s) + spare
	return len(r) == len(s) && slices.EqualFunc(r[:n], s[:n], isSameNum)
}

func isSameNum(x, y api.Num) bool {
	n := len(y.W) + spare
	return equal(x, y) && slices.Equal(x.W[:n], y.W[:n])
}

// calls are all functions with results, by name.
func calls() map[string]func(x, y argument, prec int) (result, api.Errno) {
	list := map[string]func(x, y argument, prec int) (result, api.Errno){
		"Of": func(x, _ argument, _ int) (result, api.Errno) { return result{matrix: Of(x.p)}, api.OK },
		"Id": func(x, _ argument, _ int) (result, api.Errno) { return result{matrix: Id(len(x.m))}, api.OK },
	}
	for name, call := range operations() {
		list[name] = func(x, y argument, prec int) (result, api.Errno) {
			o := operands{a: x.m, b: y.m}
			if len(y.m) > 0 && len(y.m[0]) > 0 {
				o.v, o.x = y.m[0], y.m[0][0]
			}
			return call(o, prec)
		}
	}
	return list
}

func ask(x, y argument) {
	Right(x.m)
	Same(x.m, y.m)
	In(x.m, y.m)
}

// numbers are the places of all numbers of a result.
func (r *result) numbers() []*api.Num {
	list := []*api.Num{&r.norm}
	for _, b := range append(slices.Clone(r.matrix), r.box) {
		for i := range b {
			list = append(list, &b[i].Lo, &b[i].Hi)
		}
	}
	for _, p := range r.nums {
		for i := range p {
			list = append(list, &p[i])
		}
	}
	return list
}

// overwrite changes the number and all memory that it reaches. Changed again,
// shared words are not what they were.
func overwrite(x *api.Num) {
	w := x.W[:cap(x.W)]
	for i := range w {
		w[i]++
	}
	*x = api.Num{Neg: true, Exp: -99}
}

// stretch lengthens all lists of the result to their capacity.
func (r *result) stretch() {
	r.matrix = r.matrix[:cap(r.matrix)]
	for i, b := range r.matrix {
		r.matrix[i] = b[:cap(b)]
	}
	r.nums = r.nums[:cap(r.nums)]
	for i, p := range r.nums {
		r.nums[i] = p[:cap(p)]
	}
	r.box = r.box[:cap(r.box)]
}

// overwrite changes all memory that the result reaches.
func (r *result) overwrite() {
	r.stretch()
	for _, x := range r.numbers() {
		overwrite(x)
	}
	clear(r.matrix)
	clear(r.nums)
}

// memoryMatrices are matrices of few and of many bits, and ones that are not
// valid.
func memoryMatrices() [][][]api.Iv {
	long := from(full(65, 7), wide(maxBits, 0))
	return [][][]api.Iv{
		nil, {nil}, points(row{1}), points(row{0}), matrix(boxOf(ints(-1, 2))), matrix(boxOf(point(full(192, 1)))),
		points(row{1, 2}, row{3, 4}), points(row{1, 0}, row{0, 1}), filled(2, ints(257, 259)), filled(2, ints(0, 0)),
		matrix(boxOf(ints(-300, 258), long), boxOf(ints(0, 257), ints(4, 4))),
		filled(3, ints(-257, 257)), but(filled(3, ints(5, 5)), 1, 2, from(minus(wide(129, 0)), full(192, 1))),
		filled(4, ints(3, 5)), points(row{1, 2, 3, 4}, row{5, 6, 7, 8}, row{9, 10, 11, 12}, row{13, 14, 15, 257}),
		{boxOf(ints(2, 1))}, {boxOf(point(api.Num{W: []uint64{12, 0}}))}, {boxOf(ints(1, 2)), nil}, filled(5, ints(0, 3)),
		but(filled(3, ints(1, 2)), 2, 2, ints(2, 1)),
	}
}

func TestArgumentsAreTheCallers(t *testing.T) {
	for name, call := range calls() {
		for _, a := range memoryMatrices() {
			for _, b := range memoryMatrices() {
				for _, prec := range []int{7, 8, 256} {
					x, y := newArgument(a), newArgument(b)
					r, _ := call(x, y, prec)
					ask(x, y)
					if !x.isThatOf(a) || !y.isThatOf(b) {
						t.Fatalf("%s of %v, %v to %d bits modifies an argument", name, a, b, prec)
					}
					r.overwrite()
					if !x.isThatOf(a) || !y.isThatOf(b) {
						t.Fatalf("%s of %v, %v to %d bits returns memory of an argument", name, a, b, prec)
					}
				}
			}
		}
	}
}

// TestOneArgumentTwice passes a matrix as both operands, its first row and
// element as the box and the factor, and matrices whose rows are one.
func TestOneArgumentTwice(t *testing.T) {
	for name, call := range calls() {
		for _, a := range memoryMatrices() {
			whole := newArgument(a)
			got, err := call(whole, whole, 8)
			want, wantErr := call(newArgument(a), newArgument(a), 8)
			if err != wantErr || !got.equals(want) {
				t.Errorf("%s of %v twice: %v, %d, not %v, %d", name, a, got, err, want, wantErr)
			}
			got.overwrite()
			if !whole.isThatOf(a) {
				t.Fatalf("%s of %v twice returns or modifies its memory", name, a)
			}
		}
		r := newArgument(points(row{-3, 257, 5}))
		shared := argument{m: matrix(r.m[0], r.m[0], r.m[0]), p: [][]api.Num{r.p[0], r.p[0], r.p[0]}}
		plain := points(row{-3, 257, 5}, row{-3, 257, 5}, row{-3, 257, 5})
		got, err := call(shared, shared, 8)
		want, wantErr := call(newArgument(plain), newArgument(plain), 8)
		if err != wantErr || !got.equals(want) {
			t.Errorf("%s of rows that are one: %v, %d, not %v, %d", name, got, err, want, wantErr)
		}
		got.overwrite()
		if !r.isThatOf(points(row{-3, 257, 5})) {
			t.Errorf("%s of rows that are one returns or modifies their memory", name)
		}
	}
}

// TestNumbersAreApart: what is done to one number of a result changes no other
// one, be it in the same row or in another one, even behind the end of a row.
func TestNumbersAreApart(t *testing.T) {
	for name, call := range calls() {
		for _, a := range memoryMatrices() {
			for _, b := range memoryMatrices() {
				got, _ := call(newArgument(a), newArgument(b), 8)
				want, _ := call(newArgument(a), newArgument(b), 8)
				got.stretch()
				want.stretch()
				others := want.numbers()
				for i, x := range got.numbers() {
					overwrite(x)
					*others[i] = *x
					if !got.equals(want) {
						t.Fatalf("%s of %v, %v: number %d is shared", name, a, b, i)
					}
				}
			}
		}
	}
}

// TestResultsAreApart: what is done to a result changes no later one.
func TestResultsAreApart(t *testing.T) {
	for name, call := range calls() {
		for _, a := range memoryMatrices() {
			x := newArgument(a)
			first, err1 := call(x, x, 8)
			first.overwrite()
			got, err2 := call(x, x, 8)
			want, err3 := call(newArgument(a), newArgument(a), 8)
			if err1 != err2 || err2 != err3 || !got.equals(want) {
				t.Errorf("results of %s of %v share memory", name, a)
			}
		}
	}
}
