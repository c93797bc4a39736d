package digits

import (
	"slices"
	"strings"
	"testing"

	"fathomline/api"
)

// General rule 3: arguments, with their spare capacity, are neither modified
// nor shared with results.

const spare = 4

// withSpare is x with a mark in the spare capacity of its words, and all of
// their memory.
func withSpare(x api.Num) (api.Num, []uint64) {
	memory := make([]uint64, len(x.W)+spare)
	for i := range memory {
		memory[i] = 0xabcdef
	}
	copy(memory, x.W)
	x.W = memory[:len(x.W)]
	return x, memory
}

// overwrite changes all memory that the slice reaches.
func overwrite(w []uint64) {
	w = w[:cap(w)]
	for i := range w {
		w[i] = ^w[i]
	}
}

// memoryNumbers are valid ones and ones that are not.
func memoryNumbers() []api.Num {
	numbers := []api.Num{full(maxBits, 0), full(1000, -9)}
	for _, p := range pairs() {
		numbers = append(numbers, p.x)
	}
	for _, x := range invalid() {
		numbers = append(numbers, x)
	}
	return numbers
}

func TestTextLeavesItsArgument(t *testing.T) {
	for _, x := range memoryNumbers() {
		given, memory := withSpare(x)
		want := slices.Clone(memory)
		text := Text(given)
		if !slices.Equal(memory, want) {
			t.Errorf("Text modifies %v", x)
		}
		before := strings.Clone(text)
		overwrite(given.W)
		if text != before {
			t.Errorf("Text of %v changes with its argument", x)
		}
		if fresh := Text(x); text != fresh {
			t.Errorf("Text of %v depends on its capacity: %q, %q", x, text, fresh)
		}
	}
}

// TestParseResultsAreApart: what is done to a result changes no later one.
func TestParseResultsAreApart(t *testing.T) {
	for _, s := range []string{"0", "1", "-1", "2", "12p5", "10000000000000000000", "18446744073709551616", "-340282366920938463463374607431768211457p-9"} {
		first, err := Parse(s)
		want := api.Num{Neg: first.Neg, Exp: first.Exp, W: slices.Clone(first.W)}
		overwrite(first.W)
		second, again := Parse(s)
		if err != api.OK || again != api.OK || !equal(second, want) {
			t.Errorf("results of Parse(%q) share memory: %v, %v", s, second, want)
		}
	}
}

// TestParsePieces parses pieces of one text, between bytes that are digits too.
func TestParsePieces(t *testing.T) {
	const whole = "99-12p-3456789p12-0p0012"
	for i := range len(whole) + 1 {
		for k := i; k <= len(whole); k++ {
			got, err := Parse(whole[i:k])
			want, wantErr := Parse(strings.Clone(whole[i:k]))
			if err != wantErr || !equal(got, want) {
				t.Errorf("Parse(%q) hangs on what is around it", whole[i:k])
			}
			checkParse(t, whole[i:k])
		}
	}
}
