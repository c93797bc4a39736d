package poly

import (
	"fmt"
	"reflect"
	"slices"
	"testing"

	"fathomline/api"
)

// General rule 3 of DOC.md: arguments are neither modified nor retained, and
// results are newly allocated.

const (
	spare = 3
	mark  = 0xabcdef
)

// withRoom has f of each element, with fillers behind them.
func withRoom[T any](l []T, filler T, f func(x T) T) []T {
	var room []T
	for _, x := range l {
		room = append(room, f(x))
	}
	for range spare {
		room = append(room, f(filler))
	}
	return room[:len(l):len(room)]
}

func same[T any](x T) T { return x }

func roomyNum(x api.Num) api.Num {
	x.W = withRoom(x.W, mark, same)
	return x
}

func roomyIv(a api.Iv) api.Iv { return from(roomyNum(a.Lo), roomyNum(a.Hi)) }

func roomyMono(m api.Mono) api.Mono {
	return term(roomyNum(m.C), withRoom(m.E, mark, same)...)
}

// memory is all that a call is given or returns.
type memory struct {
	p, q []api.Mono
	x    []api.Num
	b    []api.Iv
}

// newArguments are v with marks in all of the spare capacity.
func newArguments(v memory) memory {
	return memory{
		p: withRoom(v.p, mono(mark, mark), roomyMono),
		q: withRoom(v.q, mono(mark, mark), roomyMono),
		x: withRoom(v.x, odd(mark, 0), roomyNum),
		b: withRoom(v.b, spanOf(mark, mark), roomyIv),
	}
}

// stretched is v with all lists lengthened to their capacity.
func (v memory) stretched() memory {
	num := func(x api.Num) api.Num {
		x.W = x.W[:cap(x.W)]
		return x
	}
	list := func(l []api.Mono) []api.Mono {
		l = slices.Clone(l[:cap(l)])
		for i, m := range l {
			l[i] = api.Mono{C: num(m.C), E: m.E[:cap(m.E)]}
		}
		return l
	}
	s := memory{p: list(v.p), q: list(v.q), x: slices.Clone(v.x[:cap(v.x)]), b: slices.Clone(v.b[:cap(v.b)])}
	for i, x := range s.x {
		s.x[i] = num(x)
	}
	for i, a := range s.b {
		s.b[i] = from(num(a.Lo), num(a.Hi))
	}
	return s
}

// kept is a copy of all memory of v.
func (v memory) kept() memory {
	s := v.stretched()
	s.p, s.q = copied(s.p), copied(s.q)
	for i, x := range s.x {
		s.x[i].W = slices.Clone(x.W)
	}
	for i, a := range s.b {
		s.b[i].Lo.W, s.b[i].Hi.W = slices.Clone(a.Lo.W), slices.Clone(a.Hi.W)
	}
	return s
}

func (v memory) isThatOf(kept memory) bool { return reflect.DeepEqual(v.kept(), kept) }

func (v memory) equals(w memory) bool {
	return equalList(v.p, w.p) && slices.EqualFunc(v.x, w.x, equal) && slices.EqualFunc(v.b, w.b, equalIv)
}

// words are all words of v's numbers, and ints all exponents.
func (v memory) words() [][]uint64 {
	s := v.stretched()
	var l [][]uint64
	for _, m := range append(s.p, s.q...) {
		l = append(l, m.C.W)
	}
	for _, x := range s.x {
		l = append(l, x.W)
	}
	for _, a := range s.b {
		l = append(l, a.Lo.W, a.Hi.W)
	}
	return l
}

func (v memory) ints() [][]int {
	s := v.stretched()
	var l [][]int
	for _, m := range append(s.p, s.q...) {
		l = append(l, m.E)
	}
	return l
}

// overwrite changes all memory that v reaches.
func (v memory) overwrite() {
	for _, w := range v.words() {
		for i := range w {
			w[i]++
		}
	}
	for _, e := range v.ints() {
		for i := range e {
			e[i]--
		}
	}
	for _, l := range [][]api.Mono{v.p, v.q} {
		l = l[:cap(l)]
		for i := range l {
			l[i] = api.Mono{C: api.Num{Neg: true, Exp: -99}, E: []int{-77}}
		}
	}
}

// places returns how many parts of the lists there are, and whether two of them
// are at one place.
func places[T any](lists [][]T) (int, bool) {
	seen := map[*T]bool{}
	count := 0
	for _, l := range lists {
		for i := range l {
			seen[&l[i]] = true
			count++
		}
	}
	return count, len(seen) < count
}

type call func(v memory) (memory, api.Errno)

// calls are all functions with results that refer to memory, by name.
func calls() map[string]call {
	list := func(p []api.Mono, err api.Errno) (memory, api.Errno) { return memory{p: p}, err }
	l := map[string]call{
		"Make":              func(v memory) (memory, api.Errno) { return list(Make(v.p, len(v.x))) },
		"Make of both":      func(v memory) (memory, api.Errno) { return list(Make(append(slices.Clone(v.p), v.q...), len(v.x))) },
		"Add":               func(v memory) (memory, api.Errno) { return list(Add(v.p, v.q, len(v.x))) },
		"Add, the same":     func(v memory) (memory, api.Errno) { return list(Add(v.p, v.p, len(v.x))) },
		"Add to nothing":    func(v memory) (memory, api.Errno) { return list(Add(nil, v.p, len(v.x))) },
		"Add nothing":       func(v memory) (memory, api.Errno) { return list(Add(v.p, nil, len(v.x))) },
		"Mul":               func(v memory) (memory, api.Errno) { return list(Mul(v.p, v.q, len(v.x))) },
		"Mul, the same":     func(v memory) (memory, api.Errno) { return list(Mul(v.p, v.p, len(v.x))) },
		"Mul by 1":          func(v memory) (memory, api.Errno) { return list(Mul(v.p, list1(len(v.x)), len(v.x))) },
		"Mul of 1":          func(v memory) (memory, api.Errno) { return list(Mul(list1(len(v.x)), v.p, len(v.x))) },
		"Diff by the first": func(v memory) (memory, api.Errno) { return list(Diff(v.p, 0, len(v.x))) },
		"Diff by the last":  func(v memory) (memory, api.Errno) { return list(Diff(v.p, len(v.x)-1, len(v.x))) },
		"At": func(v memory) (memory, api.Errno) {
			x, err := At(v.p, v.x)
			return memory{x: []api.Num{x}}, err
		},
		"Right, Same and Degree": func(v memory) (memory, api.Errno) {
			Right(v.p, len(v.x))
			Same(v.p, v.q)
			Same(v.p, v.p)
			Degree(v.q)
			return memory{}, api.OK
		},
	}
	for _, prec := range []int{7, 8, 256} {
		l[fmt.Sprintf("Range to %d bits", prec)] = func(v memory) (memory, api.Errno) {
			a, err := Range(v.p, v.b, prec)
			return memory{b: []api.Iv{a}}, err
		}
	}
	return l
}

// list1 is the polynomial 1 of n variables.
func list1(n int) []api.Mono { return list(mono(1, make([]int, max(n, 0))...)) }

// cases are arguments that lead to polynomials and to each error.
func cases() []memory {
	long := full(192, -7)
	x1, x2, x3, x4 := ints(3), []api.Num{long, of(-1, 3)}, ints(2, 0, -5), []api.Num{of(1, 40000), of(1, 40000), of(3, -1), {}}
	b1, b2, b3, b4 := boxOf(spanOf(-3, 257)), boxOf(from(minus(long), long), point(wide(maxBits, 0))), boxOf(spanOf(0, 0), spanOf(1, 1), spanOf(-9, 5)), slices.Repeat(boxOf(point(of(1, 40000))), 4)
	return []memory{
		{}, {x: x1, b: b1}, {p: list(mono(1)), q: list(mono(1))}, {p: list(mono(5, 0)), x: x1, b: b1}, {p: list(term(full(300, 0), 1)), x: x1, b: b1},
		{p: list(mono(1, 1)), q: list(mono(1, 1)), x: x1, b: b1}, {p: list(mono(1, 1)), q: list(mono(-1, 1)), x: x1, b: b1}, {p: some(1, 9), q: list(mono(257, 0)), x: x1, b: b1}, {p: list(mono(1, 2), mono(3, 1)), q: list(mono(1, 6)), x: x1, b: b1},
		{p: list(mono(1, 5)), q: list(mono(1, 4)), x: x1, b: b1}, {p: reversed(some(1, 9)), q: some(1, 9), x: x1, b: b1}, {p: list(mono(0, 1)), x: x1, b: b1}, {p: list(mono(1, 9)), q: list(mono(1, -1)), x: x1, b: b1},
		{p: list(term(long, 3, 1), term(of(1, 7), 0, 2)), q: list(term(of(-1, 7), 1, 0), term(minus(long), 0, 3)), x: x2, b: b2}, {p: some(2, 24), q: list(mono(3, 0, 0)), x: x2, b: b2}, {p: some(2, 25), q: some(2, 24), x: x2, b: b2},
		{p: list(term(of(1, maxExp), 1, 0), mono(1, 0, 0)), q: list(term(of(1, maxExp), 1, 0)), x: x2, b: b2}, {p: list(term(api.Num{W: []uint64{12, 0}}, 1, 0)), q: list(term(api.Num{Neg: true}, 1, 0)), x: x2, b: b2},
		{p: list(mono(7, 1, 0, 1), mono(2, 0, 2, 0), mono(-5, 0, 0, 0)), q: list(mono(7, 0, 2, 0), mono(2, 0, 1, 0)), x: x3, b: b3}, {p: list(mono(7, 1, 0, 1), mono(2, 0, 2)), q: list(mono(1, 1, 1)), x: x3, b: b3},
		{p: list(mono(7, 2, 0, 0, 0), mono(-7, 0, 2, 0, 0), mono(1, 0, 0, 1, 2), mono(257, 0, 0, 0, 0)), q: list(mono(1, 0, 0, 1, 2), mono(2, 0, 0, 0, 0)), x: x4, b: b4}, {p: some(4, 24), q: some(4, 30)[24:], x: x4, b: b4},
		{p: list(mono(7, 0, 0, 0, 0, 0)), q: list(mono(1, 0, 0, 0, 0, 0)), x: ints(1, 2, 3, 4, 5), b: slices.Repeat(boxOf(spanOf(0, 1)), 5)},
	}
}

func TestArgumentsAreTheCallers(t *testing.T) {
	seen := counts{}
	for name, f := range calls() {
		for i, v := range cases() {
			given := newArguments(v)
			kept := given.kept()
			got, err := f(given)
			seen.add(name, err)
			if !given.isThatOf(kept) {
				t.Fatalf("%s of case %d modifies an argument", name, i)
			}
			result := got.kept()
			given.overwrite()
			if !got.isThatOf(result) {
				t.Fatalf("%s of case %d retains memory of an argument", name, i)
			}
			given = newArguments(v)
			got, _ = f(given)
			got.overwrite()
			if !given.isThatOf(kept) {
				t.Fatalf("%s of case %d returns memory of an argument", name, i)
			}
		}
	}
	for _, name := range []string{"Make of both", "Add", "Mul"} {
		seen.enough(t, name, 1, api.OK, api.ErrForm, api.ErrOver, api.ErrLong)
	}
	for _, name := range []string{"At", "Range to 8 bits"} {
		seen.enough(t, name, 1, api.OK, api.ErrForm, api.ErrOver)
	}
}

// TestPartsAreApart: no two parts of a result are at one place, even behind the
// end of a list.
func TestPartsAreApart(t *testing.T) {
	total := 0
	for name, f := range calls() {
		for i, v := range cases() {
			got, _ := f(newArguments(v))
			n, one := places(got.words())
			m, other := places(got.ints())
			if total += n + m; one || other {
				t.Fatalf("parts of %s of case %d share memory", name, i)
			}
		}
	}
	if total < 500 {
		t.Errorf("only %d parts", total)
	}
}

// TestResultsAreApart: what is done to a result changes no later one.
func TestResultsAreApart(t *testing.T) {
	for name, f := range calls() {
		for i, v := range cases() {
			first, err1 := f(v)
			want := first.kept()
			first.overwrite()
			again, err2 := f(v)
			if err1 != err2 || !again.isThatOf(want) {
				t.Fatalf("%s of case %d: %d, then %d, or other numbers", name, i, err1, err2)
			}
			n, _ := places(append(first.words(), again.words()...))
			one, _ := places(first.words())
			two, _ := places(again.words())
			if n != one+two {
				t.Fatalf("results of %s of case %d share memory", name, i)
			}
		}
	}
}

// TestSharedArguments has lists whose words and exponents are in one array.
func TestSharedArguments(t *testing.T) {
	e := []int{2, 1, 0, 1, 0, 0, 1}
	w := []uint64{5, 7, 9}
	shared := memory{
		p: list(term(api.Num{W: w}, e[:3]...), term(api.Num{W: w[:1]}, e[1:4]...), term(api.Num{Neg: true, W: w[1:]}, e[4:]...)),
		x: []api.Num{{W: w[:2]}, {Exp: 3, W: w[:2]}, {W: w[2:]}},
	}
	shared.q = shared.p
	for _, x := range shared.x {
		shared.b = append(shared.b, from(minus(x), x))
	}
	kept, apart, done := shared.kept(), newArguments(shared), counts{}
	for name, f := range calls() {
		got, err := f(shared)
		want, wantErr := f(apart)
		if err != wantErr || !got.equals(want) {
			t.Errorf("%s of shared arguments: %v, %d, not %v, %d", name, got, err, want, wantErr)
		}
		done.add(name, err)
		if !shared.isThatOf(kept) {
			t.Fatalf("%s modifies shared arguments", name)
		}
		got.overwrite()
		if !shared.isThatOf(kept) {
			t.Fatalf("%s returns shared arguments", name)
		}
	}
	for _, name := range []string{"Make", "Add", "Mul", "Diff by the first", "At", "Range to 256 bits"} {
		done.enough(t, name, 1, api.OK)
	}
}
