package num

import (
	"slices"
	"testing"

	"fathomline/api"
)

// General rule 3: arguments, with their spare capacity, are neither modified
// nor shared with results.

const spare = 4

// withSpare is x with a mark in the spare capacity of its words, and all of
// their memory.
func withSpare(x api.Num) (api.Num, []uint64) {
	memory := make([]uint64, len(x.W)+spare)
	for i := range memory {
		memory[i] = 0xabcdef
	}
	copy(memory, x.W)
	x.W = memory[:len(x.W)]
	return x, memory
}

// calls are all functions with numbers as results, by name.
func calls() map[string]operation {
	scale := func(k int64) operation {
		return func(a, b api.Num) (api.Num, api.Errno) { return Scale(a, k) }
	}
	return map[string]operation{
		"Make":     func(a, b api.Num) (api.Num, api.Errno) { return Make(a.Neg, a.W, a.Exp) },
		"Neg":      func(a, b api.Num) (api.Num, api.Errno) { return Neg(a), api.OK },
		"Abs":      func(a, b api.Num) (api.Num, api.Errno) { return Abs(a), api.OK },
		"Add":      Add,
		"Sub":      Sub,
		"Mul":      Mul,
		"Scale 0":  scale(0),
		"Scale 1":  scale(1),
		"Scale -9": scale(-9),
	}
}

func ask(a, b api.Num) {
	Right(a)
	Sign(a)
	Cmp(a, b)
	Same(a, b)
}

// memoryNumbers are valid ones and ones that only Make takes.
func memoryNumbers() []api.Num {
	return []api.Num{
		{}, of(1, 0), of(-1, 0), of(5, 0), of(-3, 2), of(1, 64), words(0, all), words(-64, 1, 1), minus(words(-64, 1, 1)),
		words(3, 5, 6, 7), minus(words(1, all, all, all)), wide(maxBits, 0), of(1, api.MaxExp), of(1, -api.MaxExp),
		words(0, 0), words(0, 5, 0), words(0, 0, 5), words(0, 0, 8, 4, 0), words(0, 12), wide(maxBits+1, 0),
	}
}

func TestArgumentsAreNotModified(t *testing.T) {
	for _, a := range memoryNumbers() {
		for _, b := range memoryNumbers() {
			x, xs := withSpare(a)
			y, ys := withSpare(b)
			wantX, wantY := slices.Clone(xs), slices.Clone(ys)
			for name, call := range calls() {
				call(x, y)
				if !slices.Equal(xs, wantX) || !slices.Equal(ys, wantY) {
					t.Fatalf("%s modifies %v, %v", name, a, b)
				}
			}
			ask(x, y)
			if !slices.Equal(xs, wantX) || !slices.Equal(ys, wantY) {
				t.Fatalf("a question modifies %v, %v", a, b)
			}
		}
	}
}

func TestResultsAreNew(t *testing.T) {
	for name, call := range calls() {
		for _, a := range memoryNumbers() {
			for _, b := range memoryNumbers() {
				x, xs := withSpare(a)
				y, ys := withSpare(b)
				wantX, wantY := slices.Clone(xs), slices.Clone(ys)
				result, _ := call(x, y)
				overwrite(result.W)
				if !slices.Equal(xs, wantX) || !slices.Equal(ys, wantY) {
					t.Errorf("%s of %v, %v returns memory of an argument", name, a, b)
				}
			}
		}
	}
	for _, n := range []int64{0, 1, -6, 1 << 62} {
		want := Int(n)
		overwrite(Int(n).W)
		if got := Int(n); !equal(got, want) {
			t.Errorf("results of Int(%d) share memory", n)
		}
	}
}

// overwrite changes all memory that the slice reaches.
func overwrite(w []uint64) {
	w = w[:cap(w)]
	for i := range w {
		w[i] = ^w[i]
	}
}

// TestSharedArguments passes numbers whose words are in one array.
func TestSharedArguments(t *testing.T) {
	memory := []uint64{all, 3, 1, 7, all, 9}
	want := slices.Clone(memory)
	for name, call := range calls() {
		for _, x := range []struct{ a, b []uint64 }{
			{memory, memory},
			{memory[:3], memory[:5]},
			{memory[1:6], memory[:4]},
			{memory[:0], memory[2:]},
		} {
			a, b := api.Num{W: x.a}, api.Num{Exp: -5, Neg: true, W: x.b}
			got, err := call(a, b)
			a.W, b.W = slices.Clone(x.a), slices.Clone(x.b)
			fresh, wantErr := call(a, b)
			if err != wantErr || !equal(got, fresh) {
				t.Errorf("%s of shared %v, %v: %v, not %v", name, x.a, x.b, got, fresh)
			}
			if !slices.Equal(memory, want) {
				t.Fatalf("%s modifies shared arguments", name)
			}
		}
	}
}
