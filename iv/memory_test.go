package iv

import (
	"slices"
	"testing"

	"fathomline/api"
)

// General rule 3: arguments, with their spare capacity, are neither modified
// nor shared with results. Nor do the ends of a result share memory.

const spare = 4

// withSpare is x with a mark in the spare capacity of its words, and all of
// their memory.
func withSpare(x api.Num) (api.Num, []uint64) {
	memory := make([]uint64, len(x.W)+spare)
	for i := range memory {
		memory[i] = 0xabcdef
	}
	copy(memory, x.W)
	x.W = memory[:len(x.W)]
	return x, memory
}

// argument is an interval with all memory that it reaches.
type argument struct {
	a            api.Iv
	memory, want [2][]uint64
}

func newArgument(a api.Iv) argument {
	var x argument
	x.a.Lo, x.memory[0] = withSpare(a.Lo)
	x.a.Hi, x.memory[1] = withSpare(a.Hi)
	for i := range x.memory {
		x.want[i] = slices.Clone(x.memory[i])
	}
	return x
}

func (x argument) isUnchanged() bool {
	return slices.Equal(x.memory[0], x.want[0]) && slices.Equal(x.memory[1], x.want[1])
}

// calls are all functions with numbers or intervals as results, by name. A
// number is returned as Lo.
func calls() map[string]operation {
	list := operations()
	for name, call := range measures() {
		list[name] = func(a, _ api.Iv, prec int) (api.Iv, api.Errno) {
			x, err := call(a, prec)
			return api.Iv{Lo: x}, err
		}
	}
	for k, name := range []string{"Pow 0", "Pow 1", "Pow 2", "Pow 3"} {
		list[name] = func(a, _ api.Iv, prec int) (api.Iv, api.Errno) { return Pow(a, k, prec) }
	}
	list["Of"] = func(a, _ api.Iv, _ int) (api.Iv, api.Errno) { return Of(a.Lo), api.OK }
	list["Make"] = func(a, _ api.Iv, _ int) (api.Iv, api.Errno) { return Make(a.Lo, a.Hi) }
	list["Make of one"] = func(a, _ api.Iv, _ int) (api.Iv, api.Errno) { return Make(a.Hi, a.Hi) }
	list["Hull"] = func(a, b api.Iv, _ int) (api.Iv, api.Errno) { return Hull(a, b) }
	list["Meet"] = func(a, b api.Iv, _ int) (api.Iv, api.Errno) { return Meet(a, b) }
	list["Neg"] = func(a, _ api.Iv, _ int) (api.Iv, api.Errno) { return Neg(a), api.OK }
	list["Mag"] = func(a, _ api.Iv, _ int) (api.Iv, api.Errno) { return api.Iv{Lo: Mag(a)}, api.OK }
	list["Meet at one"] = func(a, _ api.Iv, _ int) (api.Iv, api.Errno) { return Meet(point(a.Lo), a) }
	return list
}

func ask(a, b api.Iv) {
	Right(a)
	Same(a, b)
	Has(a, b.Lo)
	In(a, b)
	Inside(a, b)
}

// memoryIvs are intervals of few and of many bits, and ones that are not valid.
func memoryIvs() []api.Iv {
	return []api.Iv{
		{}, ints(1, 1), ints(-1, 2), ints(3, 5), ints(-5, -3), ints(257, 259), ints(0, 257), from(minus(words(-64, 1, 1)), words(3, 5, 6, 7)),
		point(full(192, 1)), from(full(65, 7), wide(maxBits, 0)), from(of(-1, maxExp), of(1, -maxExp)), point(of(257, maxExp)),
		ints(2, 1), point(words(0, 12)), from(words(0, 5, 0), words(0, 0)), point(wide(maxBits+1, 0)),
	}
}

// overwrite changes all memory that the slice reaches.
func overwrite(w []uint64) {
	w = w[:cap(w)]
	for i := range w {
		w[i] = ^w[i]
	}
}

func TestArgumentsAreTheCallers(t *testing.T) {
	for name, call := range calls() {
		for _, a := range memoryIvs() {
			for _, b := range memoryIvs() {
				for _, prec := range []int{7, 8, 64, 256} {
					x, y := newArgument(a), newArgument(b)
					result, _ := call(x.a, y.a, prec)
					ask(x.a, y.a)
					if !x.isUnchanged() || !y.isUnchanged() {
						t.Fatalf("%s of %v, %v to %d bits modifies an argument", name, a, b, prec)
					}
					overwrite(result.Lo.W)
					overwrite(result.Hi.W)
					if !x.isUnchanged() || !y.isUnchanged() {
						t.Fatalf("%s of %v, %v to %d bits returns memory of an argument", name, a, b, prec)
					}
				}
			}
		}
	}
}

// TestEndsAreApart: what is done to one end of a result does not change the
// other.
func TestEndsAreApart(t *testing.T) {
	for name, call := range calls() {
		for _, a := range memoryIvs() {
			for _, b := range memoryIvs() {
				result, _ := call(a, b, 64)
				want := slices.Clone(result.Hi.W)
				overwrite(result.Lo.W)
				if !slices.Equal(result.Hi.W, want) {
					t.Fatalf("the ends of %s of %v, %v share memory", name, a, b)
				}
			}
		}
	}
}

// TestResultsAreApart: what is done to a result changes no later one.
func TestResultsAreApart(t *testing.T) {
	for name, call := range calls() {
		a, b := ints(-511, 513), ints(3, 5)
		first, err := call(a, b, 8)
		want := from(clone(first.Lo), clone(first.Hi))
		overwrite(first.Lo.W)
		overwrite(first.Hi.W)
		if second, err2 := call(a, b, 8); err2 != err || !equalIv(second, want) {
			t.Errorf("results of %s share memory", name)
		}
	}
}

// TestSharedArguments passes intervals whose words are in one array.
func TestSharedArguments(t *testing.T) {
	memory := []uint64{all, 3, 1, 7, all, 9}
	want := slices.Clone(memory)
	for name, call := range calls() {
		for _, x := range []struct{ a, b []uint64 }{
			{memory, memory},
			{memory[:3], memory[:5]},
			{memory[1:6], memory[:4]},
			{memory[:1], memory[2:]},
		} {
			both := func(a, b []uint64) (api.Iv, api.Iv) {
				return from(api.Num{Neg: true, W: a}, api.Num{Exp: 9, W: b}), from(api.Num{Exp: -5, W: a}, api.Num{Exp: 500, W: b})
			}
			a, b := both(x.a, x.b)
			got, err := call(a, b, 100)
			c, d := both(slices.Clone(x.a), slices.Clone(x.b))
			fresh, wantErr := call(c, d, 100)
			if err != wantErr || !equalIv(got, fresh) {
				t.Errorf("%s of shared %v, %v: %v, not %v", name, x.a, x.b, got, fresh)
			}
			if !slices.Equal(memory, want) {
				t.Fatalf("%s modifies shared arguments", name)
			}
		}
	}
}
