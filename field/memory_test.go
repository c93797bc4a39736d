package field

import (
	"fmt"
	"reflect"
	"slices"
	"testing"

	"fathomline/api"
)

// General rule 3 of DOC.md: arguments are neither modified nor retained, and
// results are newly allocated.

const (
	spare = 3
	mark  = 0xabcdef
)

// memory is all that a call is given or returns.
type memory struct {
	F, G [][]api.Mono
	X    []api.Num
	B    []api.Iv
	M    [][][]api.Mono
}

// rebuilt is v in memory of its own. The function says how many elements a list
// gets, and up to where they belong to it; those that v does not have are made
// of marks.
func rebuilt(v reflect.Value, size func(v reflect.Value) (int, int)) reflect.Value {
	made := reflect.New(v.Type()).Elem()
	switch v.Kind() {
	case reflect.Struct:
		for i := range v.NumField() {
			made.Field(i).Set(rebuilt(v.Field(i), size))
		}
	case reflect.Slice:
		capacity, length := size(v)
		if capacity == 0 {
			return v
		}
		made.Set(reflect.MakeSlice(v.Type(), capacity, capacity))
		old := v.Slice3(0, v.Cap(), v.Cap())
		for i := range capacity {
			x := marked(v.Type().Elem())
			if i < old.Len() {
				x = old.Index(i)
			}
			made.Index(i).Set(rebuilt(x, size))
		}
		made.Set(made.Slice3(0, length, capacity))
	default:
		made.Set(v)
	}
	return made
}

// marked is a value of the type whose lists have one element each.
func marked(of reflect.Type) reflect.Value {
	v := reflect.New(of).Elem()
	switch of.Kind() {
	case reflect.Struct:
		for i := range of.NumField() {
			v.Field(i).Set(marked(of.Field(i).Type))
		}
	case reflect.Slice:
		v.Set(reflect.Append(v, marked(of.Elem())))
	case reflect.Bool:
		v.SetBool(true)
	case reflect.Uint64:
		v.SetUint(mark)
	default:
		v.SetInt(mark)
	}
	return v
}

// newArguments are v with marks in all of the spare capacity.
func newArguments(v memory) memory {
	return rebuilt(reflect.ValueOf(v.kept()), func(v reflect.Value) (int, int) { return v.Len() + spare, v.Len() }).Interface().(memory)
}

// kept is a copy of v without spare capacity.
func (v memory) kept() memory {
	return rebuilt(reflect.ValueOf(v), func(v reflect.Value) (int, int) { return v.Len(), v.Len() }).Interface().(memory)
}

// stretched is a copy of all memory of v.
func (v memory) stretched() memory {
	return rebuilt(reflect.ValueOf(v), func(v reflect.Value) (int, int) { return v.Cap(), v.Cap() }).Interface().(memory)
}

func (v memory) isThatOf(stretched memory) bool { return reflect.DeepEqual(v.stretched(), stretched) }

// each calls f with each element of the lists that v reaches, and of their spare
// capacity, the inner ones first.
func each(v reflect.Value, f func(element reflect.Value)) {
	switch v.Kind() {
	case reflect.Struct:
		for i := range v.NumField() {
			each(v.Field(i), f)
		}
	case reflect.Slice:
		l := v.Slice3(0, v.Cap(), v.Cap())
		for i := range l.Len() {
			each(l.Index(i), f)
			f(l.Index(i))
		}
	}
}

// overwrite changes all memory that v reaches.
func (v memory) overwrite() {
	each(reflect.ValueOf(v), func(x reflect.Value) {
		if x.IsZero() {
			x.Set(marked(x.Type()))
		} else {
			x.SetZero()
		}
	})
}

// place is where an element is. A list's first element may be at the place of
// the first of another type.
type place struct {
	at uintptr
	of reflect.Type
}

// places are those of all elements of v, and how many there are.
func (v memory) places() (map[place]bool, int) {
	seen, count := map[place]bool{}, 0
	each(reflect.ValueOf(v), func(x reflect.Value) {
		seen[place{x.UnsafeAddr(), x.Type()}] = true
		count++
	})
	return seen, count
}

type call func(v memory) (memory, api.Errno)

// calls are all functions, by name.
func calls() map[string]call {
	l := map[string]call{
		"At": func(v memory) (memory, api.Errno) {
			x, err := At(v.F, v.X)
			return memory{X: x}, err
		},
		"Jac": func(v memory) (memory, api.Errno) {
			m, err := Jac(v.F)
			return memory{M: m}, err
		},
		"Right, Same and Degree": func(v memory) (memory, api.Errno) {
			Right(v.F)
			Right(v.G)
			Same(v.F, v.G)
			Same(v.F, v.F)
			Degree(v.F)
			Degree(v.G)
			return memory{}, api.OK
		},
	}
	for _, prec := range []int{7, 8, 256} {
		l[fmt.Sprintf("Range to %d bits", prec)] = func(v memory) (memory, api.Errno) {
			b, err := Range(v.F, v.B, prec)
			return memory{B: b}, err
		}
	}
	return l
}

// cases are arguments that lead to results and to each error.
func cases() []memory {
	long := full(192, -7)
	l := []memory{
		{}, {X: ints(1), B: boxOf(spanOf(0, 1))}, {F: noFields()["2 of 3 variables"], X: ints(1, 2), B: boxOf(spanOf(0, 1), spanOf(0, 1))},
		{F: fieldOf(list(mono(1, 1))), X: []api.Num{long}, B: boxOf(point(long))}, {F: fieldOf(list(term(long, 0))), X: ints(0), B: boxOf(spanOf(0, 0))},
		{F: fieldOf(list(mono(3, 2), mono(1, 0))), X: []api.Num{of(1, maxExp)}, B: boxOf(from(minus(long), of(1, maxExp)))},
		{F: fieldOf(list(term(of(1, maxExp), 2))), X: ints(0), B: boxOf(spanOf(0, 0))}, {F: fieldOf(list(mono(0, 2))), X: ints(0), B: boxOf(spanOf(0, 0))},
		{F: fieldOf(list(mono(1, 1))), X: []api.Num{of(2, 0)}, B: boxOf(spanOf(1, 0))}, {F: make([][]api.Mono, 5), X: make([]api.Num, 5), B: make([]api.Iv, 5)},
	}
	for n := 1; n <= api.MaxDim; n++ {
		for _, f := range fields(n) {
			x := []api.Num{long, of(-3, 1), {}, of(5, -4)}[:n]
			l = append(l, memory{F: f, X: x, B: points(x)}, memory{F: f, X: x[:n-1], B: slices.Repeat(boxOf(spanOf(-1, 2)), n)})
		}
	}
	for i := range l {
		l[i].G = l[(i+7)%len(l)].F
	}
	return l
}

func TestArgumentsAreTheCallers(t *testing.T) {
	seen := map[string]map[api.Errno]int{}
	for name, f := range calls() {
		seen[name] = map[api.Errno]int{}
		for i, v := range cases() {
			given := newArguments(v)
			kept := given.stretched()
			got, err := f(given)
			seen[name][err]++
			if !given.isThatOf(kept) {
				t.Fatalf("%s of case %d modifies an argument", name, i)
			}
			result := got.stretched()
			given.overwrite()
			if !got.isThatOf(result) {
				t.Fatalf("%s of case %d retains memory of an argument", name, i)
			}
			given = newArguments(v)
			got, _ = f(given)
			got.overwrite()
			if !given.isThatOf(kept) {
				t.Fatalf("%s of case %d returns memory of an argument", name, i)
			}
		}
	}
	for _, name := range []string{"At", "Jac", "Range to 8 bits"} {
		if seen[name][api.OK] == 0 || seen[name][api.ErrForm] == 0 || seen[name][api.ErrOver] == 0 {
			t.Errorf("results of %s: %v", name, seen[name])
		}
	}
}

// TestPartsAreApart: no two parts of a result are at one place, even behind the
// end of a list.
func TestPartsAreApart(t *testing.T) {
	total := 0
	for name, f := range calls() {
		for i, v := range cases() {
			got, _ := f(newArguments(v))
			seen, count := got.places()
			if total += count; len(seen) < count {
				t.Fatalf("parts of %s of case %d share memory", name, i)
			}
		}
	}
	if total < 500 {
		t.Errorf("only %d parts", total)
	}
}

// TestResultsAreApart: what is done to a result changes no later one.
func TestResultsAreApart(t *testing.T) {
	for name, f := range calls() {
		for i, v := range cases() {
			first, err1 := f(v)
			want := first.kept()
			first.overwrite()
			again, err2 := f(v)
			if err1 != err2 || !reflect.DeepEqual(again.kept(), want) {
				t.Fatalf("%s of case %d: %d, then %d, or other results", name, i, err1, err2)
			}
			one, _ := first.places()
			two, _ := again.places()
			for x := range one {
				if two[x] {
					t.Fatalf("results of %s of case %d share memory", name, i)
				}
			}
		}
	}
}

// TestSharedArguments has polynomials, words and exponents in one array each.
func TestSharedArguments(t *testing.T) {
	e := []int{2, 1, 0, 1, 0, 0, 1}
	w := []uint64{5, 7, 9}
	p := list(term(api.Num{W: w}, e[:3]...), term(api.Num{W: w[:1]}, e[1:4]...), term(api.Num{Neg: true, W: w[1:]}, e[4:]...))
	shared := memory{F: fieldOf(p[:2], p[1:], p[:1]), X: []api.Num{{W: w[:2]}, {Exp: 3, W: w[:2]}, {W: w[2:]}}}
	shared.G = shared.F
	for _, x := range shared.X {
		shared.B = append(shared.B, from(minus(x), x))
	}
	kept, apart := shared.stretched(), newArguments(shared)
	for name, f := range calls() {
		got, err := f(shared)
		want, wantErr := f(apart)
		if err != wantErr || !reflect.DeepEqual(got.kept(), want.kept()) {
			t.Errorf("%s of shared arguments: %v, %d, not %v, %d", name, got, err, want, wantErr)
		}
		if err != api.OK && name != "Range to 7 bits" {
			t.Errorf("%s of shared arguments: %d", name, err)
		}
		if !shared.isThatOf(kept) {
			t.Fatalf("%s modifies shared arguments", name)
		}
		got.overwrite()
		if !shared.isThatOf(kept) {
			t.Fatalf("%s returns shared arguments", name)
		}
	}
}
