package ortho

import (
	"slices"
	"testing"

	"fathomline/api"
)

// General rule 3 of DOC.md: arguments are neither modified nor retained, and
// results are newly allocated.

const (
	spare = 3
	mark  = 0xabcdef
)

// withSpare is x with marks in the spare capacity of its words.
func withSpare(x api.Num) api.Num {
	memory := slices.Repeat([]uint64{mark}, len(x.W)+spare)
	copy(memory, x.W)
	x.W = memory[:len(x.W)]
	return x
}

// withRoom is f of each element, with that of as many fillers behind them as
// there is room.
func withRoom[T, R any](list []T, filler T, f func(x T) R) []R {
	var all []R
	for _, x := range list {
		all = append(all, f(x))
	}
	for range spare {
		all = append(all, f(filler))
	}
	return all[:len(list):len(all)]
}

// newArgument is a with marks in all of its spare capacity.
func newArgument(a [][]api.Num) [][]api.Num {
	return withRoom(a, []api.Num{of(mark, 0)}, func(r []api.Num) []api.Num {
		return withRoom(r, of(mark, 0), withSpare)
	})
}

// isThatOf reports whether all memory of the argument x is as it was made from
// a.
func isThatOf(x, a [][]api.Num) bool {
	y := newArgument(a)
	n := len(a) + spare
	return len(x) == len(y) && slices.EqualFunc(x[:n], y[:n], func(r, s []api.Num) bool {
		k := len(s) + spare
		return len(r) == len(s) && slices.EqualFunc(r[:k], s[:k], isSameNum)
	})
}

func isSameNum(x, y api.Num) bool {
	n := len(y.W) + spare
	return equal(x, y) && slices.Equal(x.W[:n], y.W[:n])
}

// stretched has all rows of r to their capacity.
func stretched(r [][]api.Num) [][]api.Num {
	var all [][]api.Num
	for _, line := range r[:cap(r)] {
		all = append(all, line[:cap(line)])
	}
	return all
}

// overwrite changes the number and all memory that it reaches. Changed again,
// shared words are not what they were.
func overwrite(x *api.Num) {
	w := x.W[:cap(x.W)]
	for i := range w {
		w[i]++
	}
	*x = api.Num{Neg: true, Exp: -99}
}

// overwriteAll changes all memory that the result reaches.
func overwriteAll(r [][]api.Num) {
	for _, line := range stretched(r) {
		for j := range line {
			overwrite(&line[j])
		}
	}
	clear(r[:cap(r)])
}

// memoryMatrices are matrices of few and of many bits, ones with columns that
// are orthogonal already, and ones without a result.
func memoryMatrices() [][][]api.Num {
	long := func(exp int64) api.Num { return full(maxBits, exp) }
	return [][][]api.Num{
		nil, {nil}, matrix("1"), matrix("1p-1"), matrix("-3"), matrix("0"), matrix("257"), unit(2), half(3), half(4), matrix("0 1; 1 0"),
		matrix("1 2; 3 4"), matrix("1 257; 1 257"), matrix("1 2; 2 4"), matrix("255p-8 1p-1; 1p-1 -255p-8"), matrix("1 1 1; 1 1 0; 1 0 0"),
		matrix("1 2 3; 4 5 6; 7 8 10"), matrix("1 2 3; 4 5 6; 7 8 9"), matrix("5 1 1 1; 1 5 1 1; 1 1 5 1; 1 1 1 5"),
		matrix("1 1p-65536; 1 0"), matrix("1p65536 0; 1p-65536 1"), matrix("1 0 0; 0 1 1p65536; 0 0 1"),
		filled(5, of(1, 0)), {{of(1, 0), of(2, 0)}, {of(3, 0)}}, {{of(2, 0)}}, {{of(1, 0), of(3, 0)}, nil},
		{{long(-maxExp), {}}, {{}, wide(maxBits, 0)}}, {{wide(129, -128), full(192, -200)}, {minus(wide(65, -60)), full(64, -64)}}, {{full(65, -65), of(1, 0)}, {{}, of(1, 0)}},
	}
}

func TestArgumentsAreTheCallers(t *testing.T) {
	for _, a := range memoryMatrices() {
		for _, prec := range []int{7, 8, 64, 256} {
			x := newArgument(a)
			r, _ := Columns(x, prec)
			if !isThatOf(x, a) {
				t.Fatalf("Columns(%v, %d) modifies its argument", a, prec)
			}
			overwriteAll(r)
			if !isThatOf(x, a) {
				t.Fatalf("Columns(%v, %d) returns memory of its argument", a, prec)
			}
		}
	}
}

// TestOverlappingRows has rows and numbers that share memory.
func TestOverlappingRows(t *testing.T) {
	line := newArgument(matrix("1 2 257 -5 3"))[0]
	w := []uint64{3, 5, 7}
	for _, a := range [][][]api.Num{
		{line[0:2], line[1:3]}, {line[1:3], line[0:2]}, {line[0:2], line[3:5]}, {line[0:2], line[0:2]}, {line[0:3], line[1:4], line[2:5]},
		{{{W: w[:1]}, {W: w[:2]}}, {{W: w[1:]}, {W: w}}},
	} {
		own := mapped(a, func(x api.Num) api.Num { return api.Num{Neg: x.Neg, Exp: x.Exp, W: slices.Clone(x.W)} })
		got, err := Columns(a, 8)
		want, wantErr := Columns(newArgument(own), 8)
		if err != wantErr || !equalNums(got, want) {
			t.Errorf("Columns(%s, 8) = %s, %d, not %s, %d", text(a), text(got), err, text(want), wantErr)
		}
		overwriteAll(got)
		if !isSameNum(line[2], withSpare(of(257, 0))) || !equalNums(a, own) {
			t.Fatalf("Columns(%s, 8) returns or modifies its memory", text(own))
		}
	}
}

// TestNumbersAreApart: what is done to one number of a result changes no other
// one, be it in the same row or in another one, even behind the end of a row.
func TestNumbersAreApart(t *testing.T) {
	for _, a := range memoryMatrices() {
		for _, prec := range []int{8, 256} {
			got, _ := Columns(newArgument(a), prec)
			want, _ := Columns(newArgument(a), prec)
			got, want = stretched(got), stretched(want)
			for i, line := range got {
				for j := range line {
					overwrite(&line[j])
					want[i][j] = line[j]
					if !equalNums(got, want) {
						t.Fatalf("Columns(%s, %d): number %d of row %d is shared", text(a), prec, j, i)
					}
				}
			}
		}
	}
}

// TestResultsAreApart: what is done to a result changes no later one, and the
// calls know nothing of each other.
func TestResultsAreApart(t *testing.T) {
	for _, a := range memoryMatrices() {
		x := newArgument(a)
		first, err1 := Columns(x, 8)
		overwriteAll(first)
		Columns(matrix("1 2 3; 4 5 6; 5 7 9"), 8)
		got, err2 := Columns(x, 8)
		want, err3 := Columns(newArgument(a), 8)
		if err1 != err2 || err2 != err3 || !equalNums(got, want) {
			t.Errorf("results of Columns(%s, 8) share memory", text(a))
		}
	}
}
