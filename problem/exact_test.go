package problem

import (
	"fmt"
	"math/big"
	"regexp"
	"slices"
	"strconv"
	"strings"
	"testing"

	"fathomline/api"
	"fathomline/parse"
)

// P13.1 to P13.4: the results are those of another implementation, which reads
// lines as regular expressions say and compares numbers by math/big. Of the
// program it uses packages api and parse, which is where the chapter leaves it to
// another one.

// dyadic is m times 2^exp.
type dyadic struct {
	m   *big.Int
	exp int64
}

// dyadicOf goes through bytes, so that it hangs on no word size of math/big.
func dyadicOf(x api.Num) dyadic {
	bytes := make([]byte, 8*len(x.W))
	for i, w := range x.W {
		for k := range 8 {
			bytes[len(bytes)-1-8*i-k] = byte(w >> (8 * k))
		}
	}
	m := new(big.Int).SetBytes(bytes)
	if x.Neg {
		m.Neg(m)
	}
	return dyadic{m, x.Exp}
}

// at is the integer that d has for an exponent that is not greater.
func (d dyadic) at(exp int64) *big.Int {
	return new(big.Int).Lsh(d.m, uint(d.exp-exp))
}

func (d dyadic) compared(e dyadic) int {
	if d.m.Sign() != e.m.Sign() || d.m.Sign() == 0 {
		return d.m.Sign() - e.m.Sign()
	}
	exp := min(d.exp, e.exp)
	return d.at(exp).Cmp(e.at(exp))
}

func compared(x, y api.Num) int { return dyadicOf(x).compared(dyadicOf(y)) }

// number is the valid number with the value, or false.
func (d dyadic) number() (api.Num, bool) {
	if d.m.Sign() == 0 {
		return api.Num{}, true
	}
	zeros := d.m.TrailingZeroBits()
	m := new(big.Int).Rsh(new(big.Int).Abs(d.m), zeros)
	exp := d.exp + int64(zeros)
	if m.BitLen() > maxBits || exp < -maxExp || exp > maxExp {
		return api.Num{}, false
	}
	x := api.Num{Neg: d.m.Sign() < 0, Exp: exp}
	for mask := new(big.Int).SetUint64(all); m.Sign() > 0; m.Rsh(m, 64) {
		x.W = append(x.W, new(big.Int).And(m, mask).Uint64())
	}
	return x, true
}

// numberOf is the number of a word, or false if there is no valid one.
func numberOf(word string) (api.Num, bool) {
	mantissa, power, _ := strings.Cut(word, "p")
	m, _ := new(big.Int).SetString(mantissa, 10)
	exp, _ := strconv.ParseInt(power, 10, 64)
	return dyadic{m, exp}.number()
}

const (
	integerForm = `([1-9][0-9]{0,3})`
	numberForm  = `(0|-?[1-9][0-9]*(?:p-?[1-9][0-9]{0,5})?)`
)

// lineForms are the forms of the lines ahead of the field. The last one is that
// of each line of the box.
var lineForms = []*regexp.Regexp{
	regexp.MustCompile(`\Aprec ` + integerForm + `\n\z`),
	regexp.MustCompile(`\Aorder ` + integerForm + `\n\z`),
	regexp.MustCompile(`\Abudget ` + integerForm + `\n\z`),
	regexp.MustCompile(`\Auntil ` + numberForm + `\n\z`),
	regexp.MustCompile(`\Amost ` + numberForm + `\n\z`),
	regexp.MustCompile(`\Aleast ` + numberForm + `\n\z`),
	regexp.MustCompile(`\Abox ` + numberForm + ` ` + numberForm + `\n\z`),
}

// wordsOf are the words of a line that has the form, without its name.
func wordsOf(form *regexp.Regexp, line string) []string {
	words := form.FindStringSubmatch(line)
	for _, word := range words[min(1, len(words)):] {
		mantissa, _, _ := strings.Cut(strings.TrimPrefix(word, "-"), "p")
		if len(mantissa) > api.MaxDigits {
			return nil
		}
	}
	return words[min(1, len(words)):]
}

// words are those of the lines ahead of the field, and the field's offset; or
// nil and the offset of the error.
func words(s string) ([][]string, int) {
	last := len(lineForms) - 1
	var l [][]string
	at := 0
	for line := range strings.SplitAfterSeq(s, "\n") {
		if len(l) == last+api.MaxDim {
			break
		}
		w := wordsOf(lineForms[min(len(l), last)], line)
		switch {
		case w != nil:
		case len(l) > last:
			return l, at
		case strings.HasSuffix(line, "\n"):
			return nil, at
		default:
			return nil, len(s)
		}
		l, at = append(l, w), at+len(line)
	}
	return l, at
}

// solvable says whether a problem whose numbers are all valid is so.
func solvable(p api.Problem) bool {
	for _, x := range []api.Num{p.Until, p.Most, p.Least} {
		if compared(x, api.Num{}) <= 0 {
			return false
		}
	}
	for _, v := range p.Box {
		if compared(v.Lo, v.Hi) > 0 {
			return false
		}
	}
	return len(p.Box) == len(p.Field) && compared(p.Least, p.Most) <= 0 && p.Prec >= 8 && p.Prec <= 256 && p.Order >= 2 && p.Order <= 10 && p.Budget >= 1 && p.Budget <= 4096
}

// parsed is what Parse has to return.
func parsed(s string) (api.Problem, int, api.Errno) {
	var none api.Problem
	w, start := words(s)
	if w == nil {
		return none, start, api.ErrText
	}
	f, fieldAt, fieldErr := parse.Parse(s[start:])
	if fieldErr == api.ErrText {
		return none, start + fieldAt, api.ErrText
	}
	var integers []int
	var numbers []api.Num
	at := 0
	for i, line := range w {
		for _, word := range line {
			if i < 3 {
				n, _ := strconv.Atoi(word)
				integers = append(integers, n)
				continue
			}
			x, ok := numberOf(word)
			if !ok {
				return none, at, api.ErrOver
			}
			numbers = append(numbers, x)
		}
		at += 1 + strings.Index(s[at:], "\n")
	}
	if fieldErr != api.OK {
		return none, start + fieldAt, fieldErr
	}
	p := api.Problem{Field: f, Until: numbers[0], Most: numbers[1], Least: numbers[2], Prec: integers[0], Order: integers[1], Budget: integers[2]}
	for ends := range slices.Chunk(numbers[3:], 2) {
		p.Box = append(p.Box, api.Iv{Lo: ends[0], Hi: ends[1]})
	}
	if !solvable(p) {
		return none, 0, api.ErrForm
	}
	return p, 0, api.OK
}

func checkParsed(t *testing.T, s string) api.Errno {
	t.Helper()
	want, wantAt, wantErr := parsed(s)
	if got, at, err := Parse(s); err != wantErr || at != wantAt || !equalProblem(got, want) {
		t.Fatalf("Parse(%q) = %s, %d, %d, not %s, %d, %d", s, message(got), at, err, message(want), wantAt, wantErr)
	}
	return wantErr
}

// TestEachByte replaces each byte of texts by each other one, or puts it ahead,
// or ends there.
func TestEachByte(t *testing.T) {
	seen := map[api.Errno]int{}
	for _, s := range []string{
		exampleText, joined(page()), "prec 256\norder 10\nbudget 4096\nuntil 1p65536\nmost 10p-1\nleast 5\nbox -1p-65536 0\nx1' = x1^8\n", "prec 8\norder 2\nbudget 1\nuntil 1p65537\nmost 1\nleast 1\nbox 0 1p65537\nbox 2 1\nx1' = x1^8*x2\nx2' = 0\n",
		Show(changed(simple(4), setField(make([][]api.Mono, 4)))),
	} {
		for i := range len(s) + 1 {
			seen[checkParsed(t, s[:i])]++
			for c := range 256 {
				other := string([]byte{byte(c)})
				seen[checkParsed(t, s[:i]+other+s[i:])]++
				if i < len(s) {
					seen[checkParsed(t, s[:i]+other+s[i+1:])]++
				}
			}
		}
	}
	for _, err := range []api.Errno{api.OK, api.ErrForm, api.ErrOver, api.ErrText} {
		if seen[err] < 100 {
			t.Errorf("texts by errors: %v", seen)
		}
	}
}

// TestShortLines has all short texts of some bytes in the place of each line.
func TestShortLines(t *testing.T) {
	const bytes = "019p- +\n\r"
	seen := map[api.Errno]int{}
	words := []string{""}
	for from, length := 0, 1; length <= 4; length++ {
		to := len(words)
		for _, w := range words[from:to] {
			for i := range len(bytes) {
				words = append(words, w+bytes[i:i+1])
			}
		}
		from = to
	}
	for i, line := range page()[:fieldLine] {
		name, _, _ := strings.Cut(line, " ")
		before, behind := joined(page()[:i]), joined(page()[i+1:])
		for _, w := range words {
			seen[checkParsed(t, before+name+" "+w+"\n"+behind)]++
			if len(w) < 3 {
				seen[checkParsed(t, before+w+line+"\n"+behind)]++
				seen[checkParsed(t, before+line+w+"\n"+behind)]++
				seen[checkParsed(t, before+name+w+line[len(name):]+"\n"+behind)]++
			}
		}
	}
	if seen[api.OK] < 100 || seen[api.ErrText] < 10000 || seen[api.ErrForm] < 100 {
		t.Errorf("texts by errors: %v", seen)
	}
}

// source yields the same words in every run.
type source uint64

func (s *source) next() uint64 {
	*s += 0x9e3779b97f4a7c15
	x := uint64(*s)
	x = (x ^ x>>30) * 0xbf58476d1ce4e5b9
	x = (x ^ x>>27) * 0x94d049bb133111eb
	return x ^ x>>31
}

func (s *source) below(n int) int { return int(s.next() % uint64(n)) }

// oneOf is one of the texts.
func (s *source) oneOf(texts ...string) string { return texts[s.below(len(texts))] }

// numberText is mostly a number near 1, of this sign.
func (s *source) numberText(sign string) string {
	switch s.below(240) {
	case 0:
		return sign + s.oneOf("1p65536", "1p-65536", "2p-65537")
	case 1, 2, 3, 4:
		return sign + s.oneOf("1p65537", "1p-65537", "1p999999", "2p65536", strings.Repeat("8", 1300))
	case 5:
		return s.oneOf("01", "1p", "1p-", "0p1", "1p0", "1p1234567", "", "-", "-0")
	case 6:
		return sign + strings.Repeat("7", 1+s.below(1234))
	case 7:
		return s.oneOf("0", "-1", "-3p-7")
	}
	return sign + fmt.Sprintf("%dp%d", 1+s.below(99), s.below(9)-10)
}

// text is mostly a text, of up to as many variables as there can be.
func (s *source) text() string {
	n := 1 + s.below(api.MaxDim)
	l := []string{
		"prec " + s.oneOf("8", "64", "64", "100", "100", "256", strconv.Itoa(1+s.below(300))), "order " + s.oneOf("2", "3", "5", "10", "10", strconv.Itoa(1+s.below(12))), "budget " + s.oneOf("1", "7", "4096", strconv.Itoa(1+s.below(5000))),
		"until " + s.numberText(""), "most " + s.oneOf("1p7", "100", s.numberText("")), "least " + s.oneOf("1p-11", s.numberText("")),
	}
	for range n {
		l = append(l, "box "+s.oneOf(s.numberText("-"), s.numberText("-"), "0")+" "+s.numberText(""))
	}
	for i := range n {
		l = append(l, fmt.Sprintf("x%d' = ", i+1)+s.right(n))
	}
	return joined(l)
}

// right is a right-hand side of n variables.
func (s *source) right(n int) string {
	x := fmt.Sprintf("x%d", 1+s.below(n))
	switch s.below(60) {
	case 0, 1:
		return x + "^8*x1"
	case 2, 3:
		return "1p65537"
	case 4:
		return s.oneOf("01", "x", "", "1 +", ")")
	}
	return s.oneOf("", "-", "2*", "0*") + x + s.oneOf("", "^2", " + 1", "*(x1 - 3p-2)^2")
}

// turned is mostly no text: one byte is another one, or is missing, or stands
// there more, or one line is missing, or stands elsewhere, or is that of another
// text, or the text ends too early.
func (s *source) turned(whole string) string {
	const bytes = "0123456789x p-+'=\nbox\r"
	i, c := s.below(len(whole)), bytes[s.below(len(bytes)):][:1]
	lines := strings.SplitAfter(whole, "\n")
	k := s.below(len(lines) - 1)
	rest := append(slices.Clone(lines[:k]), lines[k+1:]...)
	switch s.below(9) {
	case 0:
		return whole[:i]
	case 1:
		return whole[:i] + whole[i+1:]
	case 2:
		return whole[:i] + c + whole[i+1:]
	case 3:
		return whole[:i] + c + whole[i:]
	case 4:
		return strings.Join(rest, "")
	case 5:
		return strings.Join(slices.Insert(rest, s.below(len(rest)), lines[k]), "")
	case 6:
		return strings.Join(slices.Insert(lines, s.below(len(lines)), lines[k]), "")
	case 7:
		return strings.Join(slices.Insert(lines, 6, slices.Repeat([]string{"box 1 2\n"}, 1+s.below(4))...), "")
	}
	others := strings.SplitAfter(s.text(), "\n")
	return strings.Join(with(lines, k, others[s.below(len(others))]), "")
}

func TestAgainstReference(t *testing.T) {
	s, seen, seenTurned, inHead := source(1), map[api.Errno]int{}, map[api.Errno]int{}, 0
	for range 20000 {
		whole := s.text()
		seen[checkParsed(t, whole)]++
		if _, at, err := Parse(whole); err == api.ErrOver && at < strings.Index(whole, "x1") {
			inHead++
		}
		for range 3 {
			seenTurned[checkParsed(t, s.turned(whole))]++
		}
	}
	for _, seen := range []map[api.Errno]int{seen, seenTurned} {
		for _, err := range []api.Errno{api.OK, api.ErrForm, api.ErrOver, api.ErrText, api.ErrLong} {
			if seen[err] < 500 {
				t.Errorf("texts by errors: %v", seen)
			}
		}
	}
	if inHead < 500 || seen[api.ErrOver]-inHead < 300 {
		t.Errorf("%d of %d with ErrOver ahead of the field", inHead, seen[api.ErrOver])
	}
}

// P13.2 and P13.4

// shownNumber is the text of a number.
func shownNumber(x api.Num) string {
	if x.Exp == 0 {
		return dyadicOf(x).m.String()
	}
	return fmt.Sprintf("%sp%d", dyadicOf(x).m, x.Exp)
}

// shown is what Show has to return for a problem that is valid.
func shown(p api.Problem) string {
	s := fmt.Sprintf("prec %d\norder %d\nbudget %d\n", p.Prec, p.Order, p.Budget)
	s += fmt.Sprintf("until %s\nmost %s\nleast %s\n", shownNumber(p.Until), shownNumber(p.Most), shownNumber(p.Least))
	for _, v := range p.Box {
		s += fmt.Sprintf("box %s %s\n", shownNumber(v.Lo), shownNumber(v.Hi))
	}
	return s + parse.Show(p.Field)
}

// checkInverse expects the text of p, and p for this text.
func checkInverse(t *testing.T, p api.Problem) {
	t.Helper()
	s := Show(p)
	if want := shown(p); s != want {
		t.Fatalf("Show(%s) = %q, not %q", message(p), s, want)
	}
	checkProblem(t, s, p)
	checkParsed(t, s)
	if got, _, _ := Parse(s); !Right(got) || !Same(got, p) || Show(got) != s {
		t.Fatalf("Parse(%q) is another problem", s)
	}
	if t.Failed() {
		t.FailNow()
	}
}

func TestParseInvertsShow(t *testing.T) {
	checkInverse(t, example())
	for n := 1; n <= api.MaxDim; n++ {
		checkInverse(t, simple(n))
		for _, c := range rights(n) {
			checkInverse(t, changed(simple(n), c))
		}
		for i, least := range positive() {
			for _, most := range positive()[i:] {
				p := changed(changed(simple(n), setLeast(least)), setMost(most))
				checkInverse(t, changed(p, setBox(slices.Repeat([]api.Iv{{Lo: minus(most), Hi: least}}, n))))
			}
		}
	}
	for exp := int64(-maxExp); exp <= maxExp; exp += 131 {
		checkInverse(t, api.Problem{Field: fieldOf(nil), Box: []api.Iv{{Lo: of(-3, exp), Hi: of(1, exp)}}, Until: of(3, exp), Most: of(1, exp), Least: of(1, exp), Prec: 8, Order: 2, Budget: 1})
	}
}

// number is mostly near 1, and else of any size. It is above 0.
func (s *source) number() api.Num {
	switch s.below(12) {
	case 0:
		return s.long()
	case 1:
		return of(1, int64(s.below(2*maxExp+1))-maxExp)
	case 2, 3, 4:
		return of(1, 0)
	}
	return odd(int64(1+s.below(19)), int64(s.below(5))-2)
}

// long is a number of up to as many words as there can be.
func (s *source) long() api.Num {
	w := make([]uint64, 1+s.below(api.MaxWords)>>s.below(6))
	for i := range w {
		w[i] = s.next()
	}
	w[0] |= 1
	w[len(w)-1] = w[len(w)-1]>>s.below(64) | 1
	return api.Num{Exp: int64(s.below(300)) - 150, W: w}
}

// end is an end of an interval.
func (s *source) end() api.Num {
	switch s.below(5) {
	case 0:
		return api.Num{}
	case 1, 2:
		return minus(s.number())
	}
	return s.number()
}

// field is one of n variables.
func (s *source) field(n int) [][]api.Mono {
	f := make([][]api.Mono, n)
	for i := range f {
		left := exps(n, 1+s.below(api.MaxDeg))
		most := s.below(api.MaxTerms+1) >> s.below(5)
		for k, e := range left {
			if s.below(len(left)-k) < most-len(f[i]) {
				f[i] = append(f[i], monoOf([]api.Num{s.number(), minus(s.number())}[s.below(2)], e...))
			}
		}
	}
	return f
}

// problem is one that is valid.
func (s *source) problem() api.Problem {
	n := 1 + s.below(api.MaxDim)
	p := api.Problem{Field: s.field(n), Until: s.number(), Most: s.number(), Least: s.number(), Prec: 8 + s.below(249), Order: 2 + s.below(9), Budget: 1 + s.below(4096)}
	if compared(p.Least, p.Most) > 0 {
		p.Least, p.Most = p.Most, p.Least
	}
	for range n {
		v := api.Iv{Lo: s.end(), Hi: s.end()}
		if compared(v.Lo, v.Hi) > 0 {
			v.Lo, v.Hi = v.Hi, v.Lo
		}
		p.Box = append(p.Box, v)
	}
	return p
}

func TestParseInvertsShowOfAny(t *testing.T) {
	s, points, equalSteps := source(2), 0, 0
	for range 3000 {
		p := s.problem()
		checkRight(t, "any", p, true)
		checkInverse(t, p)
		for _, v := range p.Box {
			if equal(v.Lo, v.Hi) {
				points++
			}
		}
		if equal(p.Least, p.Most) {
			equalSteps++
		}
	}
	if points < 200 || equalSteps < 100 {
		t.Errorf("%d point intervals, %d with Least equal to Most", points, equalSteps)
	}
}

// TestParseOfNotValid: what is not valid does not come back as a problem.
func TestParseOfNotValid(t *testing.T) {
	for n := 1; n <= api.MaxDim; n++ {
		for _, c := range wrongs(n) {
			checkText(t, Show(changed(simple(n), c)), 0)
		}
	}
}
