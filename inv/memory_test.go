package inv

import (
	"slices"
	"testing"

	"fathomline/api"
)

// General rule 3 of DOC.md: arguments are neither modified nor retained, and
// results are newly allocated.

const (
	spare = 3
	mark  = 0xabcdef
)

// withSpare is x with marks in the spare capacity of its words.
func withSpare(x api.Num) api.Num {
	memory := slices.Repeat([]uint64{mark}, len(x.W)+spare)
	copy(memory, x.W)
	x.W = memory[:len(x.W)]
	return x
}

// withRoom is f of each element, with that of as many fillers behind them as
// there is room.
func withRoom[T, R any](list []T, filler T, f func(x T) R) []R {
	var all []R
	for _, x := range list {
		all = append(all, f(x))
	}
	for range spare {
		all = append(all, f(filler))
	}
	return all[:len(list):len(all)]
}

// newArgument is a with marks in all of its spare capacity.
func newArgument(a [][]api.Num) [][]api.Num {
	return withRoom(a, []api.Num{of(mark, 0)}, func(r []api.Num) []api.Num {
		return withRoom(r, of(mark, 0), withSpare)
	})
}

// isThatOf reports whether all memory of the argument x is as it was made from
// a.
func isThatOf(x, a [][]api.Num) bool {
	y := newArgument(a)
	n := len(a) + spare
	return len(x) == len(y) && slices.EqualFunc(x[:n], y[:n], func(r, s []api.Num) bool {
		k := len(s) + spare
		return len(r) == len(s) && slices.EqualFunc(r[:k], s[:k], isSameNum)
	})
}

func isSameNum(x, y api.Num) bool {
	n := len(y.W) + spare
	return equal(x, y) && slices.Equal(x.W[:n], y.W[:n])
}

// result is all that a function may return.
type result struct {
	nums [][]api.Num
	ivs  [][]api.Iv
}

func (r result) equals(s result) bool {
	return equalNums(r.nums, s.nums) && equalNums(lows(r.ivs), lows(s.ivs)) && equalNums(highs(r.ivs), highs(s.ivs))
}

func calls() map[string]func(a [][]api.Num, prec int) (result, api.Errno) {
	return map[string]func(a [][]api.Num, prec int) (result, api.Errno){
		"Approx": func(a [][]api.Num, prec int) (result, api.Errno) {
			r, err := Approx(a, prec)
			return result{nums: r}, err
		},
		"Sure": func(a [][]api.Num, prec int) (result, api.Errno) {
			m, err := Sure(a, prec)
			return result{ivs: m}, err
		},
	}
}

// stretch lengthens all lists of the result to their capacity.
func (r *result) stretch() {
	r.nums, r.ivs = r.nums[:cap(r.nums)], r.ivs[:cap(r.ivs)]
	for i, p := range r.nums {
		r.nums[i] = p[:cap(p)]
	}
	for i, b := range r.ivs {
		r.ivs[i] = b[:cap(b)]
	}
}

// numbers are the places of all numbers of a result.
func (r *result) numbers() []*api.Num {
	var list []*api.Num
	for _, p := range r.nums {
		for i := range p {
			list = append(list, &p[i])
		}
	}
	for _, b := range r.ivs {
		for i := range b {
			list = append(list, &b[i].Lo, &b[i].Hi)
		}
	}
	return list
}

// overwrite changes the number and all memory that it reaches. Changed again,
// shared words are not what they were.
func overwrite(x *api.Num) {
	w := x.W[:cap(x.W)]
	for i := range w {
		w[i]++
	}
	*x = api.Num{Neg: true, Exp: -99}
}

// overwrite changes all memory that the result reaches.
func (r *result) overwrite() {
	r.stretch()
	for _, x := range r.numbers() {
		overwrite(x)
	}
	clear(r.nums)
	clear(r.ivs)
}

// memoryMatrices are matrices of few and of many bits, ones with rows to be
// exchanged or columns that are clear already, and ones without a result.
func memoryMatrices() [][][]api.Num {
	return [][][]api.Num{
		nil, {nil}, matrix("1"), matrix("-3"), matrix("0"), matrix("1 0; 0 1"), matrix("0 1; 1 0"), matrix("1 2; 3 4"), matrix("1 257; 1 2"), matrix("1 257; 0 1"),
		matrix("4 0 0; 0 1 0; 0 3 -2"), matrix("0 0 2; 1 0 0; 0 4 0"), matrix("3 -1 -6; -1 -3 6; 0 -5 269"), matrix("1 2 3; 4 5 6; 5 7 9"),
		unit(4), matrix("5 1 1 1; 1 5 1 1; 1 1 5 1; 1 1 1 5"), matrix("0 1 -2 267; 0 263 0 7; -3 0 257 0; -3 0 271 8"),
		matrix("3p65536"), matrix("1 0; 0 3p65536"), matrix("1p-65536 -1; 0 1"), filled(5, of(1, 0)), {{of(1, 0), of(2, 0)}, {of(3, 0)}}, {{of(2, 0)}}, {{of(1, 0), of(3, 0)}, nil},
		diagonal(full(maxBits, -maxExp), wide(maxBits, 0)), {{wide(129, -128), full(192, -200)}, {minus(wide(65, -60)), full(64, -64)}},
	}
}

func TestArgumentsAreTheCallers(t *testing.T) {
	for name, call := range calls() {
		for _, a := range memoryMatrices() {
			for _, prec := range []int{7, 8, 64, 256} {
				x := newArgument(a)
				r, _ := call(x, prec)
				if !isThatOf(x, a) {
					t.Fatalf("%s of %v to %d bits modifies its argument", name, a, prec)
				}
				r.overwrite()
				if !isThatOf(x, a) {
					t.Fatalf("%s of %v to %d bits returns memory of its argument", name, a, prec)
				}
			}
		}
	}
}

// TestOverlappingRows has rows and numbers that share memory.
func TestOverlappingRows(t *testing.T) {
	line := newArgument(matrix("1 2 257 -5 3"))[0]
	w := []uint64{3, 5, 7}
	for name, call := range calls() {
		for _, a := range [][][]api.Num{
			{line[0:2], line[1:3]}, {line[1:3], line[0:2]}, {line[0:2], line[3:5]}, {line[0:2], line[0:2]}, {line[0:3], line[1:4], line[2:5]},
			{{{W: w[:1]}, {W: w[:2]}}, {{W: w[1:]}, {W: w}}},
		} {
			own := mapped(a, func(x api.Num) api.Num { return api.Num{Neg: x.Neg, Exp: x.Exp, W: slices.Clone(x.W)} })
			got, err := call(a, 8)
			want, wantErr := call(newArgument(own), 8)
			if err != wantErr || !got.equals(want) {
				t.Errorf("%s of %s: %v, %d, not %v, %d", name, text(a), got, err, want, wantErr)
			}
			got.overwrite()
			if !isSameNum(line[2], withSpare(of(257, 0))) || !equalNums(a, own) {
				t.Fatalf("%s of %s returns or modifies its memory", name, text(own))
			}
		}
	}
}

// TestNumbersAreApart: what is done to one number of a result changes no other
// one, be it in the same row or in another one, even behind the end of a row.
func TestNumbersAreApart(t *testing.T) {
	for name, call := range calls() {
		for _, a := range memoryMatrices() {
			for _, prec := range []int{8, 256} {
				got, _ := call(newArgument(a), prec)
				want, _ := call(newArgument(a), prec)
				got.stretch()
				want.stretch()
				others := want.numbers()
				for i, x := range got.numbers() {
					overwrite(x)
					*others[i] = *x
					if !got.equals(want) {
						t.Fatalf("%s of %s: number %d is shared", name, text(a), i)
					}
				}
			}
		}
	}
}

// TestResultsAreApart: what is done to a result changes no later one, and the
// calls know nothing of each other.
func TestResultsAreApart(t *testing.T) {
	for name, call := range calls() {
		for _, a := range memoryMatrices() {
			x := newArgument(a)
			first, err1 := call(x, 8)
			first.overwrite()
			call(matrix("1 2 3; 4 5 6; 5 7 9"), 8)
			got, err2 := call(x, 8)
			want, err3 := call(newArgument(a), 8)
			if err1 != err2 || err2 != err3 || !got.equals(want) {
				t.Errorf("results of %s of %s share memory", name, text(a))
			}
		}
	}
}
