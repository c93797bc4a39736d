package flow

import (
	"fmt"
	"reflect"
	"strings"
	"testing"

	"fathomline/api"
)

// General rule 3 of DOC.md: arguments are neither modified nor retained, and
// results are newly allocated.

const (
	spare = 3
	mark  = 0xabcdef
)

// memory is all that a call is given or returns.
type memory struct {
	F [][]api.Mono
	X []api.Iv
	L [][]api.Iv
	H api.Iv
}

// rebuilt is v in memory of its own. The function says how many elements a list
// gets, and up to where they belong to it; those that v does not have are made
// of marks.
func rebuilt(v reflect.Value, size func(v reflect.Value) (int, int)) reflect.Value {
	made := reflect.New(v.Type()).Elem()
	switch v.Kind() {
	case reflect.Struct:
		for i := range v.NumField() {
			made.Field(i).Set(rebuilt(v.Field(i), size))
		}
	case reflect.Slice:
		capacity, length := size(v)
		if capacity == 0 {
			return v
		}
		made.Set(reflect.MakeSlice(v.Type(), capacity, capacity))
		old := v.Slice3(0, v.Cap(), v.Cap())
		for i := range capacity {
			x := marked(v.Type().Elem())
			if i < old.Len() {
				x = old.Index(i)
			}
			made.Index(i).Set(rebuilt(x, size))
		}
		made.Set(made.Slice3(0, length, capacity))
	default:
		made.Set(v)
	}
	return made
}

// marked is a value of the type whose lists have one element each.
func marked(of reflect.Type) reflect.Value {
	v := reflect.New(of).Elem()
	switch of.Kind() {
	case reflect.Struct:
		for i := range of.NumField() {
			v.Field(i).Set(marked(of.Field(i).Type))
		}
	case reflect.Slice:
		v.Set(reflect.Append(v, marked(of.Elem())))
	case reflect.Bool:
		v.SetBool(true)
	case reflect.Uint64:
		v.SetUint(mark)
	default:
		v.SetInt(mark)
	}
	return v
}

// newArguments are v with marks in all of the spare capacity.
func newArguments(v memory) memory {
	return rebuilt(reflect.ValueOf(v.kept()), func(v reflect.Value) (int, int) { return v.Len() + spare, v.Len() }).Interface().(memory)
}

// kept is a copy of v without spare capacity.
func (v memory) kept() memory {
	return rebuilt(reflect.ValueOf(v), func(v reflect.Value) (int, int) { return v.Len(), v.Len() }).Interface().(memory)
}

// stretched is a copy of all memory of v.
func (v memory) stretched() memory {
	return rebuilt(reflect.ValueOf(v), func(v reflect.Value) (int, int) { return v.Cap(), v.Cap() }).Interface().(memory)
}

func (v memory) isThatOf(stretched memory) bool { return reflect.DeepEqual(v.stretched(), stretched) }

// each calls f with each element of the lists that v reaches, and of their spare
// capacity, the inner ones first.
func each(v reflect.Value, f func(element reflect.Value)) {
	switch v.Kind() {
	case reflect.Struct:
		for i := range v.NumField() {
			each(v.Field(i), f)
		}
	case reflect.Slice:
		l := v.Slice3(0, v.Cap(), v.Cap())
		for i := range l.Len() {
			each(l.Index(i), f)
			f(l.Index(i))
		}
	}
}

// overwrite changes all memory that v reaches.
func (v memory) overwrite() {
	each(reflect.ValueOf(v), func(x reflect.Value) {
		if x.IsZero() {
			x.Set(marked(x.Type()))
		} else {
			x.SetZero()
		}
	})
}

// place is where an element is. A list's first element may be at the place of
// the first of another type.
type place struct {
	at uintptr
	of reflect.Type
}

// places are those of all elements of v, and how many there are.
func (v memory) places() (map[place]bool, int) {
	seen, count := map[place]bool{}, 0
	each(reflect.ValueOf(v), func(x reflect.Value) {
		seen[place{x.UnsafeAddr(), x.Type()}] = true
		count++
	})
	return seen, count
}

type call func(v memory) (memory, api.Errno)

// calls are all functions, by name.
func calls() map[string]call {
	l := map[string]call{}
	for _, x := range [][2]int{{0, 8}, {1, 8}, {4, 8}, {3, 256}, {-1, 8}, {0, 7}} {
		order, prec := x[0], x[1]
		l[fmt.Sprintf("Series %d to %d bits", order, prec)] = func(v memory) (memory, api.Errno) {
			r, err := Series(v.F, v.X, order, prec)
			return memory{L: r}, err
		}
		l[fmt.Sprintf("Sum to %d bits", prec)] = func(v memory) (memory, api.Errno) {
			r, err := Sum(v.L, v.H, prec)
			return memory{X: r}, err
		}
	}
	return l
}

// cases are arguments that lead to results and to each error.
func cases() []memory {
	long := full(192, -7)
	apart := intervals(from(minus(long), long), spanOf(-3, 5), point(long), spanOf(7, 7))
	over := point(of(1, maxExp))
	l := []memory{{}, {H: point(long)}, {F: same(2, constant(3, 1)), X: apart[:2], L: lists(nil)}, {F: make([][]api.Mono, 5), X: make([]api.Iv, 5), L: make([][]api.Iv, 5)}}
	for n := 1; n <= api.MaxDim; n++ {
		for _, name := range []string{"empty", "constant", "linear", "squares", "long"} {
			f := fields(n)[name]
			l = append(l, memory{F: f, X: apart[:n], L: same(n, apart), H: apart[1]}, memory{F: f, X: same(n, point(long)), L: same(n, apart[:1]), H: point(long)}, memory{F: f, X: make([]api.Iv, n), L: same(n, make([]api.Iv, 3))})
			l = append(l, memory{F: f, X: same(n, over), L: with(same(n, apart), n-1, intervals(over, over)), H: over}, memory{F: f, X: with(apart[:n], n-1, spanOf(2, 1)), L: with(same(n, apart), n-1, nil), H: over}, memory{F: f, X: apart[:n-1], L: same(n, apart), H: spanOf(2, 1)})
		}
		for _, rule := range []string{"ascending", "C: lowest bit 0"} {
			l = append(l, memory{F: with(linear(n), n-1, noPolys(n)[rule]), X: apart[:n], L: same(n, apart[2:]), H: spanOf(-1, 0)})
		}
	}
	return l
}

func TestArgumentsAreTheCallers(t *testing.T) {
	seen := map[string]map[api.Errno]int{}
	for name, f := range calls() {
		seen[name] = map[api.Errno]int{}
		for i, v := range cases() {
			given := newArguments(v)
			kept := given.stretched()
			got, err := f(given)
			seen[name][err]++
			if !given.isThatOf(kept) {
				t.Fatalf("%s of case %d modifies an argument", name, i)
			}
			result := got.stretched()
			given.overwrite()
			if !got.isThatOf(result) {
				t.Fatalf("%s of case %d retains memory of an argument", name, i)
			}
			given = newArguments(v)
			got, _ = f(given)
			got.overwrite()
			if !given.isThatOf(kept) {
				t.Fatalf("%s of case %d returns memory of an argument", name, i)
			}
		}
	}
	for _, name := range []string{"Series 1 to 8 bits", "Series 4 to 8 bits", "Series 3 to 256 bits", "Sum to 8 bits"} {
		if seen[name][api.OK] == 0 || seen[name][api.ErrForm] == 0 || seen[name][api.ErrOver] == 0 {
			t.Errorf("results of %s: %v", name, seen[name])
		}
	}
}

// TestPartsAreApart: no two parts of a result are at one place, even behind the
// end of a list.
func TestPartsAreApart(t *testing.T) {
	total := 0
	for name, f := range calls() {
		for i, v := range cases() {
			got, _ := f(newArguments(v))
			seen, count := got.places()
			if total += count; len(seen) < count {
				t.Fatalf("parts of %s of case %d share memory", name, i)
			}
		}
	}
	if total < 500 {
		t.Errorf("only %d parts", total)
	}
}

// TestResultsAreApart: what is done to a result changes no later one.
func TestResultsAreApart(t *testing.T) {
	for name, f := range calls() {
		for i, v := range cases() {
			first, err1 := f(v)
			want := first.kept()
			first.overwrite()
			again, err2 := f(v)
			if err1 != err2 || !reflect.DeepEqual(again.kept(), want) {
				t.Fatalf("%s of case %d: %d, then %d, or other results", name, i, err1, err2)
			}
			one, _ := first.places()
			two, _ := again.places()
			for x := range one {
				if two[x] {
					t.Fatalf("results of %s of case %d share memory", name, i)
				}
			}
		}
	}
}

// TestSharedArguments has intervals, words and exponents in one array each.
func TestSharedArguments(t *testing.T) {
	e := []int{2, 1, 0, 1, 0, 0, 1}
	w := []uint64{5, 7, 9}
	a := intervals(from(api.Num{W: w[:1]}, api.Num{W: w[:2]}), point(api.Num{W: w[2:]}), from(api.Num{W: w[:1]}, api.Num{Exp: 1, W: w}), from(api.Num{Neg: true, W: w}, api.Num{Neg: true, W: w[1:2]}), spanOf(0, 1), spanOf(-1, 0))
	p := list(term(api.Num{W: w}, e[:3]...), term(api.Num{W: w[:1]}, e[1:4]...), term(api.Num{Neg: true, W: w[1:]}, e[4:]...))
	shared := memory{F: fieldOf(p[:2], p[1:], p[:1]), X: a[:3], L: lists(a, a[1:5], a[2:], a[:1]), H: a[3]}
	kept, apart := shared.stretched(), newArguments(shared)
	for name, f := range calls() {
		got, err := f(shared)
		want, wantErr := f(apart)
		if err != wantErr || !reflect.DeepEqual(got.kept(), want.kept()) {
			t.Errorf("%s of shared arguments: %v, %d, not %v, %d", name, got, err, want, wantErr)
		}
		if err != api.OK && !strings.Contains(name, " to 7 bits") && !strings.Contains(name, " -1 ") {
			t.Errorf("%s of shared arguments: %d", name, err)
		}
		if !shared.isThatOf(kept) {
			t.Fatalf("%s modifies shared arguments", name)
		}
		got.overwrite()
		if !shared.isThatOf(kept) {
			t.Fatalf("%s returns shared arguments", name)
		}
	}
}
