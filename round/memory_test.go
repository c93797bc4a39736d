package round

import (
	"slices"
	"testing"

	"fathomline/api"
)

// General rule 3: arguments, with their spare capacity, are neither modified
// nor shared with results.

const spare = 4

// withSpare is x with a mark in the spare capacity of its words, and all of
// their memory.
func withSpare(x api.Num) (api.Num, []uint64) {
	memory := make([]uint64, len(x.W)+spare)
	for i := range memory {
		memory[i] = 0xabcdef
	}
	copy(memory, x.W)
	x.W = memory[:len(x.W)]
	return x, memory
}

// calls are all functions, by name.
func calls() map[string]operation {
	all := operations()
	all["Fit"] = asOperation
	return all
}

// memoryNumbers are ones of few and of many bits, and ones that are not valid.
func memoryNumbers() []api.Num {
	return []api.Num{
		{}, of(1, 0), of(-1, 0), of(255, 3), of(257, -2), of(1, 64), words(0, all), words(-64, 1, 1), minus(words(-64, 1, 1)),
		words(3, 5, 6, 7), minus(full(192, 1)), full(65, 7), wide(maxBits, 0), of(1, maxExp), of(1, -maxExp),
		words(0, 0), words(0, 5, 0), words(0, 12), wide(maxBits+1, 0),
	}
}

// overwrite changes all memory that the slice reaches.
func overwrite(w []uint64) {
	w = w[:cap(w)]
	for i := range w {
		w[i] = ^w[i]
	}
}

func TestArgumentsAreTheCallers(t *testing.T) {
	for name, call := range calls() {
		for _, a := range memoryNumbers() {
			for _, b := range memoryNumbers() {
				for _, prec := range []int{7, 8, 64, 256} {
					for _, up := range directions() {
						x, xs := withSpare(a)
						y, ys := withSpare(b)
						wantX, wantY := slices.Clone(xs), slices.Clone(ys)
						result, _ := call(x, y, prec, up)
						if !slices.Equal(xs, wantX) || !slices.Equal(ys, wantY) {
							t.Fatalf("%s of %v, %v to %d bits modifies an argument", name, a, b, prec)
						}
						overwrite(result.W)
						if !slices.Equal(xs, wantX) || !slices.Equal(ys, wantY) {
							t.Fatalf("%s of %v, %v to %d bits returns memory of an argument", name, a, b, prec)
						}
					}
				}
			}
		}
	}
}

// TestResultsAreApart: what is done to a result changes no later one.
func TestResultsAreApart(t *testing.T) {
	for name, call := range calls() {
		for _, b := range []api.Num{of(1, 0), of(3, -1), of(257, 0)} {
			first, _ := call(of(511, 0), b, 8, true)
			want := slices.Clone(first.W)
			overwrite(first.W)
			if second, err := call(of(511, 0), b, 8, true); err != api.OK || !slices.Equal(second.W, want) {
				t.Errorf("results of %s share memory", name)
			}
		}
	}
}

// TestSharedArguments passes numbers whose words are in one array.
func TestSharedArguments(t *testing.T) {
	memory := []uint64{all, 3, 1, 7, all, 9}
	want := slices.Clone(memory)
	for name, call := range calls() {
		for _, x := range []struct{ a, b []uint64 }{
			{memory, memory},
			{memory[:3], memory[:5]},
			{memory[1:6], memory[:4]},
			{memory[:0], memory[2:]},
		} {
			for _, up := range directions() {
				a, b := api.Num{W: x.a}, api.Num{Exp: -5, Neg: true, W: x.b}
				got, err := call(a, b, 100, up)
				a.W, b.W = slices.Clone(x.a), slices.Clone(x.b)
				fresh, wantErr := call(a, b, 100, up)
				if err != wantErr || !equal(got, fresh) {
					t.Errorf("%s of shared %v, %v: %v, not %v", name, x.a, x.b, got, fresh)
				}
				if !slices.Equal(memory, want) {
					t.Fatalf("%s modifies shared arguments", name)
				}
			}
		}
	}
}
