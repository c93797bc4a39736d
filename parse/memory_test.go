package parse

import (
	"reflect"
	"slices"
	"strings"
	"testing"

	"fathomline/api"
)

// General rule 3 of DOC.md: arguments are neither modified nor retained, and
// results are newly allocated.

const (
	spare = 3
	mark  = 0xabcdef
)

// memory is all that a call is given or returns.
type memory struct{ F [][]api.Mono }

// rebuilt is v in memory of its own. The function says how many elements a list
// gets, and up to where they belong to it; those that v does not have are made
// of marks.
func rebuilt(v reflect.Value, size func(v reflect.Value) (int, int)) reflect.Value {
	made := reflect.New(v.Type()).Elem()
	switch v.Kind() {
	case reflect.Struct:
		for i := range v.NumField() {
			made.Field(i).Set(rebuilt(v.Field(i), size))
		}
	case reflect.Slice:
		capacity, length := size(v)
		if capacity == 0 {
			return v
		}
		made.Set(reflect.MakeSlice(v.Type(), capacity, capacity))
		old := v.Slice3(0, v.Cap(), v.Cap())
		for i := range capacity {
			x := marked(v.Type().Elem())
			if i < old.Len() {
				x = old.Index(i)
			}
			made.Index(i).Set(rebuilt(x, size))
		}
		made.Set(made.Slice3(0, length, capacity))
	default:
		made.Set(v)
	}
	return made
}

// marked is a value of the type whose lists have one element each.
func marked(of reflect.Type) reflect.Value {
	v := reflect.New(of).Elem()
	switch of.Kind() {
	case reflect.Struct:
		for i := range of.NumField() {
			v.Field(i).Set(marked(of.Field(i).Type))
		}
	case reflect.Slice:
		v.Set(reflect.Append(v, marked(of.Elem())))
	case reflect.Bool:
		v.SetBool(true)
	case reflect.Uint64:
		v.SetUint(mark)
	default:
		v.SetInt(mark)
	}
	return v
}

// newArguments are v with marks in all of the spare capacity.
func newArguments(v memory) memory {
	return rebuilt(reflect.ValueOf(v.kept()), func(v reflect.Value) (int, int) { return v.Len() + spare, v.Len() }).Interface().(memory)
}

// kept is a copy of v without spare capacity.
func (v memory) kept() memory {
	return rebuilt(reflect.ValueOf(v), func(v reflect.Value) (int, int) { return v.Len(), v.Len() }).Interface().(memory)
}

// stretched is a copy of all memory of v.
func (v memory) stretched() memory {
	return rebuilt(reflect.ValueOf(v), func(v reflect.Value) (int, int) { return v.Cap(), v.Cap() }).Interface().(memory)
}

func (v memory) isThatOf(stretched memory) bool { return reflect.DeepEqual(v.stretched(), stretched) }

// each calls f with each element of the lists that v reaches, and of their spare
// capacity, the inner ones first.
func each(v reflect.Value, f func(element reflect.Value)) {
	switch v.Kind() {
	case reflect.Struct:
		for i := range v.NumField() {
			each(v.Field(i), f)
		}
	case reflect.Slice:
		l := v.Slice3(0, v.Cap(), v.Cap())
		for i := range l.Len() {
			each(l.Index(i), f)
			f(l.Index(i))
		}
	}
}

// overwrite changes all memory that v reaches.
func (v memory) overwrite() {
	each(reflect.ValueOf(v), func(x reflect.Value) {
		if x.IsZero() {
			x.Set(marked(x.Type()))
		} else {
			x.SetZero()
		}
	})
}

// place is where an element is. A list's first element may be at the place of
// the first of another type.
type place struct {
	at uintptr
	of reflect.Type
}

// places are those of all elements of v, and how many there are.
func (v memory) places() (map[place]bool, int) {
	seen, count := map[place]bool{}, 0
	each(reflect.ValueOf(v), func(x reflect.Value) {
		seen[place{x.UnsafeAddr(), x.Type()}] = true
		count++
	})
	return seen, count
}

// shownFields are fields and what no fields are.
func shownFields() [][][]api.Mono {
	l := [][][]api.Mono{{}, {{}}, fieldOf(list(mono(1, 1, 0))), fieldOf(list(monoOf(of(2, 0), 1))), make([][]api.Mono, 5)}
	for n := 1; n <= api.MaxDim; n++ {
		for _, f := range fields(n) {
			f[n-1] = append(slices.Clone(f[n-1]), monoOf(minus(full(192, -7)), make([]int, n)...))
			l = append(l, f)
		}
	}
	return l
}

func TestShowLeavesItsArgument(t *testing.T) {
	none := 0
	for _, f := range shownFields() {
		v := memory{f}
		given := newArguments(v)
		kept := given.stretched()
		s := Show(given.F)
		if !given.isThatOf(kept) {
			t.Fatalf("Show modifies %s", text(f))
		}
		before := strings.Clone(s)
		given.overwrite()
		if s != before || Show(f) != s || Show(v.kept().F) != s {
			t.Fatalf("Show of %s hangs on spare capacity, or changes with its argument", text(f))
		}
		if s == "" {
			none++
		}
	}
	if none < 4 || none > len(shownFields())/2 {
		t.Errorf("%d texts of %d are empty", none, len(shownFields()))
	}
}

// TestShowOfSharedMemory has polynomials, words and exponents in one array each.
func TestShowOfSharedMemory(t *testing.T) {
	e := []int{2, 1, 0, 1, 0, 0, 1}
	w := []uint64{5, 7, 9}
	p := list(monoOf(api.Num{W: w}, e[:3]...), monoOf(api.Num{W: w[:1]}, e[1:4]...), monoOf(api.Num{Neg: true, W: w[1:]}, e[4:]...))
	shared := memory{fieldOf(p[:2], p[1:], p[:1])}
	kept, apart := shared.stretched(), newArguments(shared)
	s := Show(shared.F)
	if s == "" || s != Show(apart.F) || !shared.isThatOf(kept) {
		t.Errorf("Show of shared memory: %q, not %q", s, Show(apart.F))
	}
	checkField(t, s, apart.F)
}

// memoryTexts lead to results by each operation, and to each error.
func memoryTexts() []string {
	l := []string{
		"", "x1' = 1p\n", lines(far), lines(long), lines("0"), lines("5"), lines("x1"), lines("-x1"), lines("-7"), lines("x1^0"), lines("x1^1"), lines("12p-5^1"), lines("-(5)^1"), lines("((5))"), lines("x1 + 0"), lines("0 - x1"), lines("x1*1"), lines("-0"),
		lines("340282366920938463463374607431768211457p-9", "x1 - x1"), lines("x1", "x1", "x1", "x1"), lines("5", "5", "5"), lines("x1^0", "x1^0", "1"), lines("1", "x2^1", "-1", "1"), lines("x1 + x2 - 3", "x1 + x2 - 3"), lines("(x1 - x2)^3*(7 - 1)", "-(x1 - x2)^3"),
	}
	for n := 1; n <= api.MaxDim; n++ {
		for _, f := range fields(n) {
			l = append(l, Show(f))
		}
	}
	return l
}

func parsedMemory(s string) (memory, int, api.Errno) {
	f, at, err := Parse(s)
	return memory{f}, at, err
}

// TestPartsAreApart: no two parts of a result are at one place, even behind the
// end of a list.
func TestPartsAreApart(t *testing.T) {
	total := 0
	for _, s := range memoryTexts() {
		got, _, _ := parsedMemory(s)
		seen, count := got.places()
		if total += count; len(seen) < count {
			t.Fatalf("parts of Parse(%q) share memory", s)
		}
	}
	if total < 500 {
		t.Errorf("only %d parts", total)
	}
}

// TestResultsAreApart: what is done to a result changes no later one.
func TestResultsAreApart(t *testing.T) {
	for _, s := range memoryTexts() {
		first, at1, err1 := parsedMemory(s)
		want := first.kept()
		first.overwrite()
		again, at2, err2 := parsedMemory(s)
		if at1 != at2 || err1 != err2 || !reflect.DeepEqual(again.kept(), want) {
			t.Fatalf("Parse(%q): %d, %d, then %d, %d, or other results", s, at1, err1, at2, err2)
		}
		one, _ := first.places()
		two, _ := again.places()
		for x := range one {
			if two[x] {
				t.Fatalf("results of Parse(%q) share memory", s)
			}
		}
	}
}

// TestPieces parses pieces of one text, between bytes that could belong to them.
func TestPieces(t *testing.T) {
	const whole = "x1' = x1' = 12p-34\nx2' = x1^2 - (3*x2)^1\nx3' = 0\nx1' = 5p6\n"
	seen := map[api.Errno]int{}
	for i := range len(whole) + 1 {
		for k := i; k <= len(whole); k++ {
			seen[checkParsed(t, whole[i:k])]++
			got, at, err := Parse(whole[i:k])
			want, wantAt, wantErr := Parse(strings.Clone(whole[i:k]))
			if at != wantAt || err != wantErr || !equalField(got, want) {
				t.Fatalf("Parse(%q) hangs on what is around it", whole[i:k])
			}
		}
	}
	if seen[api.OK] < 3 || seen[api.ErrText] < 1000 {
		t.Errorf("pieces by errors: %v", seen)
	}
}
