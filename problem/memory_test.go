package problem

import (
	"reflect"
	"strings"
	"testing"

	"fathomline/api"
)

// General rule 3 of DOC.md: arguments are neither modified nor retained, and
// results are newly allocated.

const (
	spare = 3
	mark  = 0xabcdef
)

// memory is all that a call is given or returns.
type memory struct{ P, Q api.Problem }

// rebuilt is v in memory of its own. The function says how many elements a list
// gets, and up to where they belong to it; those that v does not have are made
// of marks.
func rebuilt(v reflect.Value, size func(v reflect.Value) (int, int)) reflect.Value {
	made := reflect.New(v.Type()).Elem()
	switch v.Kind() {
	case reflect.Struct:
		for i := range v.NumField() {
			made.Field(i).Set(rebuilt(v.Field(i), size))
		}
	case reflect.Slice:
		capacity, length := size(v)
		if capacity == 0 {
			return v
		}
		made.Set(reflect.MakeSlice(v.Type(), capacity, capacity))
		old := v.Slice3(0, v.Cap(), v.Cap())
		for i := range capacity {
			x := marked(v.Type().Elem())
			if i < old.Len() {
				x = old.Index(i)
			}
			made.Index(i).Set(rebuilt(x, size))
		}
		made.Set(made.Slice3(0, length, capacity))
	default:
		made.Set(v)
	}
	return made
}

// marked is a value of the type whose lists have one element each.
func marked(of reflect.Type) reflect.Value {
	v := reflect.New(of).Elem()
	switch of.Kind() {
	case reflect.Struct:
		for i := range of.NumField() {
			v.Field(i).Set(marked(of.Field(i).Type))
		}
	case reflect.Slice:
		v.Set(reflect.Append(v, marked(of.Elem())))
	case reflect.Bool:
		v.SetBool(true)
	case reflect.Uint64:
		v.SetUint(mark)
	default:
		v.SetInt(mark)
	}
	return v
}

// newArguments are v with marks in all of the spare capacity.
func newArguments(v memory) memory {
	return rebuilt(reflect.ValueOf(v.kept()), func(v reflect.Value) (int, int) { return v.Len() + spare, v.Len() }).Interface().(memory)
}

// kept is a copy of v without spare capacity.
func (v memory) kept() memory {
	return rebuilt(reflect.ValueOf(v), func(v reflect.Value) (int, int) { return v.Len(), v.Len() }).Interface().(memory)
}

// stretched is a copy of all memory of v.
func (v memory) stretched() memory {
	return rebuilt(reflect.ValueOf(v), func(v reflect.Value) (int, int) { return v.Cap(), v.Cap() }).Interface().(memory)
}

func (v memory) isThatOf(stretched memory) bool { return reflect.DeepEqual(v.stretched(), stretched) }

// each calls f with each element of the lists that v reaches, and of their spare
// capacity, the inner ones first.
func each(v reflect.Value, f func(element reflect.Value)) {
	switch v.Kind() {
	case reflect.Struct:
		for i := range v.NumField() {
			each(v.Field(i), f)
		}
	case reflect.Slice:
		l := v.Slice3(0, v.Cap(), v.Cap())
		for i := range l.Len() {
			each(l.Index(i), f)
			f(l.Index(i))
		}
	}
}

// overwrite changes all memory that v reaches.
func (v memory) overwrite() {
	each(reflect.ValueOf(v), func(x reflect.Value) {
		if x.IsZero() {
			x.Set(marked(x.Type()))
		} else {
			x.SetZero()
		}
	})
}

// place is where an element is. A list's first element may be at the place of
// the first of another type.
type place struct {
	at uintptr
	of reflect.Type
}

// places are those of all elements of v, and how many there are.
func (v memory) places() (map[place]bool, int) {
	seen, count := map[place]bool{}, 0
	each(reflect.ValueOf(v), func(x reflect.Value) {
		seen[place{x.UnsafeAddr(), x.Type()}] = true
		count++
	})
	return seen, count
}

// cases are pairs of problems, and of what is not valid.
func cases() []memory {
	var l []api.Problem
	long := full(192, -7)
	for n := 1; n <= api.MaxDim; n++ {
		p := simple(n)
		p.Field[n-1] = append(p.Field[n-1], monoOf(minus(full(192, -7)), make([]int, n)...))
		p.Box[0] = api.Iv{Lo: minus(long), Hi: long}
		p.Until, p.Most, p.Least = full(128, 3), long, wide(192, -400)
		l = append(l, p, api.Problem{}, simple(n), changed(p, setUntil(of(2, 0))), changed(p, setField(nil)), changed(p, setBox(nil)), changed(p, setPrec(7)), changed(p, setLeast(full(193, 0))))
		for _, f := range fields(n) {
			l = append(l, changed(p, setField(f)))
		}
	}
	var pairs []memory
	for i, p := range l {
		pairs = append(pairs, memory{p, p}, memory{p, l[(i+1)%len(l)]}, memory{p, changed(p, setBudget(99))})
	}
	return pairs
}

// answer is what is to be told of two problems.
type answer struct {
	right, otherRight, same, sameAsItself bool
	text                                  string
}

func answerOf(v memory) answer {
	return answer{Right(v.P), Right(v.Q), Same(v.P, v.Q), Same(v.P, v.P), Show(v.P)}
}

func TestArgumentsAreTheCallers(t *testing.T) {
	valid, same := 0, 0
	for i, v := range cases() {
		given := newArguments(v)
		kept := given.stretched()
		got := answerOf(given)
		if !given.isThatOf(kept) {
			t.Fatalf("case %d modifies an argument", i)
		}
		text := strings.Clone(got.text)
		given.overwrite()
		if got.text != text {
			t.Fatalf("Show of case %d retains memory of its argument", i)
		}
		if answerOf(v) != got || answerOf(v.kept()) != got {
			t.Fatalf("case %d hangs on spare capacity", i)
		}
		if got.right {
			valid++
		}
		if got.same {
			same++
		}
	}
	if n := len(cases()); valid < n/4 || valid > n-n/8 || same < n/4 || same > n/2 {
		t.Errorf("of %d cases %d are valid, %d the same", n, valid, same)
	}
}

// sharedProblem has its words, exponents and polynomials in one array each.
func sharedProblem() api.Problem {
	e := []int{2, 1, 0, 1, 0, 0, 1}
	w := []uint64{5, 7, 9}
	p := list(monoOf(api.Num{W: w}, e[:3]...), monoOf(api.Num{W: w[:1]}, e[1:4]...), monoOf(api.Num{Neg: true, W: w[1:]}, e[4:]...))
	x, y := api.Num{W: w[:2]}, api.Num{Exp: 3, W: w[:2]}
	box := []api.Iv{{Lo: minus(x), Hi: x}, {Lo: x, Hi: y}, {Lo: y, Hi: api.Num{W: w}}}
	return api.Problem{Field: fieldOf(p[:2], p[1:], p[:1]), Box: box, Until: x, Most: y, Least: api.Num{W: w[2:]}, Prec: 64, Order: 4, Budget: 100}
}

func TestSharedArguments(t *testing.T) {
	p := sharedProblem()
	shared := memory{p, p}
	kept, apart := shared.stretched(), newArguments(shared)
	if answerOf(shared) != answerOf(apart) || !Right(p) || !Same(p, apart.P) || !shared.isThatOf(kept) {
		t.Errorf("%+v of shared arguments, %+v of others", answerOf(shared), answerOf(apart))
	}
	checkProblem(t, Show(p), apart.P)
}

// memoryTexts lead to problems and to each error.
func memoryTexts() []string {
	l := []string{"", exampleText, joined(page()), joined(with(page(), secondFieldLine, "x2' = x1")), joined(page()[:secondFieldLine]), joined(with(page(), untilLine, "until 1p65537")), joined(with(page(), fieldLine, "x1' = x2^8*x1")), joined(with(page(), fieldLine, "x1' = )")), joined(with(page(), secondBoxLine, "box 7 7")), Show(sharedProblem())}
	l = append(l, joined(with(with(with(page(), untilLine, "until 1p-2"), secondBoxLine, "box 1p-2 1p-2"), boxLine, "box 1p-2 1p-2")))
	for _, v := range cases() {
		l = append(l, Show(v.P))
	}
	return l
}

func parsedMemory(s string) (memory, int, api.Errno) {
	p, at, err := Parse(s)
	return memory{P: p}, at, err
}

// TestPartsAreApart: no two parts of a result are at one place, even behind the
// end of a list.
func TestPartsAreApart(t *testing.T) {
	total := 0
	for _, s := range memoryTexts() {
		got, _, _ := parsedMemory(s)
		seen, count := got.places()
		if total += count; len(seen) < count {
			t.Fatalf("parts of Parse(%q) share memory", s)
		}
	}
	if total < 2000 {
		t.Errorf("only %d parts", total)
	}
}

// TestResultsAreApart: what is done to a result changes no later one.
func TestResultsAreApart(t *testing.T) {
	seen := map[api.Errno]int{}
	for _, s := range memoryTexts() {
		first, at1, err1 := parsedMemory(s)
		seen[err1]++
		want := first.kept()
		first.overwrite()
		again, at2, err2 := parsedMemory(s)
		if at1 != at2 || err1 != err2 || !reflect.DeepEqual(again.kept(), want) {
			t.Fatalf("Parse(%q): %d, %d, then %d, %d, or other results", s, at1, err1, at2, err2)
		}
		one, _ := first.places()
		two, _ := again.places()
		for x := range one {
			if two[x] {
				t.Fatalf("results of Parse(%q) share memory", s)
			}
		}
	}
	if len(seen) != 5 || seen[api.OK] < 50 {
		t.Errorf("texts by errors: %v", seen)
	}
}

// TestPieces parses pieces of one text, between bytes that could belong to them.
func TestPieces(t *testing.T) {
	whole := strings.Repeat(exampleText, 2) + "box 1 1\nx1' = x1\n" + exampleText + "0\n"
	seen := map[api.Errno]int{}
	for i := range len(whole) + 1 {
		for k := i; k <= len(whole); k++ {
			seen[checkParsed(t, whole[i:k])]++
			got, at, err := Parse(whole[i:k])
			want, wantAt, wantErr := Parse(strings.Clone(whole[i:k]))
			if at != wantAt || err != wantErr || !equalProblem(got, want) {
				t.Fatalf("Parse(%q) hangs on what is around it", whole[i:k])
			}
		}
	}
	if seen[api.OK] != strings.Count(whole, exampleText) {
		t.Errorf("pieces by errors: %v", seen)
	}
}
