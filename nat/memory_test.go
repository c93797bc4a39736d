package nat

import (
	"slices"
	"testing"
)

// General rule 3: arguments, with their spare capacity, are neither modified
// nor shared with results; and no two results share memory.

const spare = 4

// withSpare is a slice of the words with a mark in its spare capacity, and all
// of its memory.
func withSpare(words []uint64) (a, memory []uint64) {
	memory = make([]uint64, len(words)+spare)
	for i := range memory {
		memory[i] = 0xabcdef
	}
	copy(memory, words)
	return memory[:len(words)], memory
}

// calls are all functions with slices as results, by name.
func calls() map[string]func(a, b []uint64) [][]uint64 {
	shift := func(n int) func(a, b []uint64) [][]uint64 {
		return func(a, b []uint64) [][]uint64 { return [][]uint64{Shift(a, n), Shift(b, n)} }
	}
	return map[string]func(a, b []uint64) [][]uint64{
		"Trim":       func(a, b []uint64) [][]uint64 { return [][]uint64{Trim(a), Trim(b)} },
		"Add":        func(a, b []uint64) [][]uint64 { return [][]uint64{Add(a, b)} },
		"Sub":        func(a, b []uint64) [][]uint64 { d, _ := Sub(a, b); return [][]uint64{d} },
		"Mul":        func(a, b []uint64) [][]uint64 { return [][]uint64{Mul(a, b)} },
		"Div":        func(a, b []uint64) [][]uint64 { q, r, _ := Div(a, b); return [][]uint64{q, r} },
		"Shift 0":    shift(0),
		"Shift 1":    shift(1),
		"Shift 64":   shift(64),
		"Shift -1":   shift(-1),
		"Shift -64":  shift(-64),
		"Shift -128": shift(-128),
	}
}

func memoryNumbers() [][]uint64 {
	return [][]uint64{nil, {0}, {1}, {all}, {0, 0}, {5, 0}, {0, 1}, {all, all}, {4, 5, 6}, {4, 5, 6, 0, 0}, {all, all, all, 1}}
}

func TestArgumentsAreNotModified(t *testing.T) {
	for name, call := range calls() {
		for _, a := range memoryNumbers() {
			for _, b := range memoryNumbers() {
				x, xs := withSpare(a)
				y, ys := withSpare(b)
				wantX, wantY := slices.Clone(xs), slices.Clone(ys)
				call(x, y)
				if !slices.Equal(xs, wantX) || !slices.Equal(ys, wantY) {
					t.Errorf("%s modifies %v, %v", name, a, b)
				}
			}
		}
	}
	for _, a := range memoryNumbers() {
		x, xs := withSpare(a)
		want := slices.Clone(xs)
		Right(x)
		Bits(x)
		Zeros(x)
		Cmp(x, x)
		if !slices.Equal(xs, want) {
			t.Errorf("a question modifies %v", a)
		}
	}
}

func TestResultsAreNew(t *testing.T) {
	for name, call := range calls() {
		for _, a := range memoryNumbers() {
			for _, b := range memoryNumbers() {
				x, xs := withSpare(a)
				y, ys := withSpare(b)
				wantX, wantY := slices.Clone(xs), slices.Clone(ys)
				results := call(x, y)
				fresh := call(slices.Clone(a), slices.Clone(b))
				for i, result := range results {
					if !slices.Equal(result, fresh[i]) {
						t.Errorf("%s of %v, %v shares memory between its results", name, a, b)
					}
					overwrite(result)
				}
				if !slices.Equal(xs, wantX) || !slices.Equal(ys, wantY) {
					t.Errorf("%s of %v, %v returns memory of an argument", name, a, b)
				}
			}
		}
	}
}

// overwrite changes all memory that the slice reaches.
func overwrite(words []uint64) {
	words = words[:cap(words)]
	for i := range words {
		words[i] = ^words[i]
	}
}

// TestSharedArguments passes slices of one array.
func TestSharedArguments(t *testing.T) {
	memory := []uint64{all, 3, 0, 7, all, 9, 0}
	want := slices.Clone(memory)
	for name, call := range calls() {
		for _, x := range []struct{ a, b []uint64 }{
			{memory, memory},
			{memory[:3], memory[:5]},
			{memory[1:6], memory[:4]},
			{memory[:0], memory[2:]},
		} {
			got := call(x.a, x.b)
			fresh := call(slices.Clone(x.a), slices.Clone(x.b))
			if !slices.EqualFunc(got, fresh, slices.Equal[[]uint64]) {
				t.Errorf("%s of shared %v, %v: %v, not %v", name, x.a, x.b, got, fresh)
			}
			if !slices.Equal(memory, want) {
				t.Fatalf("%s modifies shared arguments", name)
			}
		}
	}
}

// TestEqualArguments: a result hangs on the words, not on the memory behind them.
func TestEqualArguments(t *testing.T) {
	for _, a := range memoryNumbers() {
		for name, call := range calls() {
			x, _ := withSpare(a)
			if !slices.EqualFunc(call(x, x), call(slices.Clone(a), slices.Clone(a)), slices.Equal[[]uint64]) {
				t.Errorf("%s of %v depends on its capacity", name, a)
			}
		}
	}
}
