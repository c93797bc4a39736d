package parse

import (
	"fmt"
	"math/big"
	"regexp"
	"slices"
	"strconv"
	"strings"
	"testing"

	"fathomline/api"
)

// P12.1 to P12.4: the results are those of another implementation, which reads
// texts as a machine with few states does, keeps operators and values on stacks,
// and forms each coefficient by math/big. Of the program it uses package api
// alone.

// dyadic is m times 2^exp.
type dyadic struct {
	m   *big.Int
	exp int64
}

func whole(n int64) dyadic { return dyadic{big.NewInt(n), 0} }

// dyadicOf goes through bytes, so that it hangs on no word size of math/big.
func dyadicOf(x api.Num) dyadic {
	bytes := make([]byte, 8*len(x.W))
	for i, w := range x.W {
		for k := range 8 {
			bytes[len(bytes)-1-8*i-k] = byte(w >> (8 * k))
		}
	}
	m := new(big.Int).SetBytes(bytes)
	if x.Neg {
		m.Neg(m)
	}
	return dyadic{m, x.Exp}
}

// at is the integer that d has for an exponent that is not greater.
func (d dyadic) at(exp int64) *big.Int {
	return new(big.Int).Lsh(d.m, uint(d.exp-exp))
}

func (d dyadic) plus(e dyadic) dyadic {
	if d.m.Sign() == 0 {
		return e
	}
	if e.m.Sign() == 0 {
		return d
	}
	exp := min(d.exp, e.exp)
	return dyadic{new(big.Int).Add(d.at(exp), e.at(exp)), exp}
}

func (d dyadic) times(e dyadic) dyadic {
	return dyadic{new(big.Int).Mul(d.m, e.m), d.exp + e.exp}
}

// number is the valid number with the value, or false.
func (d dyadic) number() (api.Num, bool) {
	if d.m.Sign() == 0 {
		return api.Num{}, true
	}
	zeros := d.m.TrailingZeroBits()
	m := new(big.Int).Rsh(new(big.Int).Abs(d.m), zeros)
	exp := d.exp + int64(zeros)
	if m.BitLen() > maxBits || exp < -maxExp || exp > maxExp {
		return api.Num{}, false
	}
	x := api.Num{Neg: d.m.Sign() < 0, Exp: exp}
	for mask := new(big.Int).SetUint64(all); m.Sign() > 0; m.Rsh(m, 64) {
		x.W = append(x.W, new(big.Int).And(m, mask).Uint64())
	}
	return x, true
}

// numberToken is what a number extends over, and numberText what it may be.
var (
	numberToken = regexp.MustCompile(`\A[0-9]+(?:p-?[0-9]*)?`)
	numberText  = regexp.MustCompile(`\A(?:0|([1-9][0-9]*)(?:p(-?[1-9][0-9]{0,5}))?)\z`)
)

func isNumberText(s string) bool {
	parts := numberText.FindStringSubmatch(s)
	return parts != nil && len(parts[1]) <= api.MaxDigits
}

// The states of a machine that reads a text: what comes next.
const (
	aLine = iota
	aMinusOrOperand
	anOperand
	anExponentOrOperator
	anOperator
	aDigit
)

// fault is the offset of the first byte at which no text can continue, or -1.
func fault(s string) int {
	state, at, line, depth := aLine, 0, 0, 0
	for {
		if state == aLine {
			if line++; at == len(s) && line > 1 {
				return -1
			}
			if line > api.MaxDim {
				return at
			}
			for _, c := range []byte(fmt.Sprintf("x%d' = ", line)) {
				if at == len(s) || s[at] != c {
					return at
				}
				at++
			}
			state = aMinusOrOperand
		}
		for at < len(s) && s[at] == ' ' {
			at++
		}
		if at == len(s) {
			return at
		}
		length, next := step(s, at, state, &depth)
		if length <= 0 {
			return at - length
		}
		at, state = at+length, next
	}
}

// step is the length of the token at this offset and what comes next. It is not
// above 0 if no text can continue, and negative if that is behind its first
// byte.
func step(s string, at, state int, depth *int) (int, int) {
	c := s[at]
	switch {
	case state == aDigit && '0' <= c && c <= '0'+api.MaxDeg:
		return 1, anOperator
	case state == aDigit:
		return 0, 0
	case state == aMinusOrOperand && c == '-':
		return 1, anOperand
	case (state == aMinusOrOperand || state == anOperand) && c == '(' && *depth < api.MaxDepth:
		*depth++
		return 1, aMinusOrOperand
	case (state == aMinusOrOperand || state == anOperand) && c == 'x':
		if at+1 < len(s) && '1' <= s[at+1] && int(s[at+1]-'0') <= min(api.MaxDim, strings.Count(s, "\n")) {
			return 2, anExponentOrOperator
		}
		return -1, 0
	case state == aMinusOrOperand || state == anOperand:
		if token := numberToken.FindString(s[at:]); isNumberText(token) {
			return len(token), anExponentOrOperator
		}
		return 0, 0
	case state == anExponentOrOperator && c == '^':
		return 1, aDigit
	case c == '+' || c == '-' || c == '*':
		return 1, anOperand
	case c == ')' && *depth > 0:
		*depth--
		return 1, anExponentOrOperator
	case c == '\n' && *depth == 0:
		return 1, aLine
	}
	return 0, 0
}

// values are coefficients that are not 0, by exponents.
type values map[[api.MaxDim]int]dyadic

func unit(i int) (e [api.MaxDim]int) {
	e[i] = 1
	return e
}

// settled is p without zeros, or the error that no polynomial is it.
func settled(p values) (values, api.Errno) {
	for e, c := range p {
		if _, ok := c.number(); !ok {
			return nil, api.ErrOver
		}
		if c.m.Sign() == 0 {
			delete(p, e)
		}
	}
	if len(p) > api.MaxTerms {
		return nil, api.ErrLong
	}
	return p, api.OK
}

func (p values) degree() int {
	greatest := 0
	for e := range p {
		greatest = max(greatest, e[0]+e[1]+e[2]+e[3])
	}
	return greatest
}

// plus is p + k q.
func (p values) plus(q values, k int64) (values, api.Errno) {
	sum := values{}
	for e, c := range p {
		sum[e] = c
	}
	for e, c := range q {
		c = c.times(whole(k))
		if old, ok := sum[e]; ok {
			c = old.plus(c)
		}
		sum[e] = c
	}
	return settled(sum)
}

func (p values) times(q values) (values, api.Errno) {
	if len(p) > 0 && len(q) > 0 && p.degree()+q.degree() > api.MaxDeg {
		return nil, api.ErrLong
	}
	product := values{}
	for e, c := range p {
		for g, d := range q {
			part := c.times(d)
			if _, ok := part.number(); !ok {
				return nil, api.ErrOver
			}
			for i, k := range e {
				g[i] += k
			}
			if old, ok := product[g]; ok {
				part = old.plus(part)
			}
			product[g] = part
		}
	}
	return settled(product)
}

// stack is a calculation: values, and operators that wait for what is behind
// them. A first minus is n.
type stack struct {
	values    []values
	operators []byte
	err       api.Errno
}

// apply applies the last operator.
func (s *stack) apply() {
	operator, n := s.operators[len(s.operators)-1], len(s.values)
	s.operators = s.operators[:len(s.operators)-1]
	last := s.values[n-1]
	switch operator {
	case 'n':
		s.values[n-1], s.err = values{}.plus(last, -1)
		return
	case '+':
		s.values[n-2], s.err = s.values[n-2].plus(last, 1)
	case '-':
		s.values[n-2], s.err = s.values[n-2].plus(last, -1)
	case '*':
		s.values[n-2], s.err = s.values[n-2].times(last)
	}
	s.values = s.values[:n-1]
}

// unwind applies all of these operators that were read last.
func (s *stack) unwind(operators string) {
	for s.err == api.OK && len(s.operators) > 0 && strings.IndexByte(operators, s.operators[len(s.operators)-1]) >= 0 {
		s.apply()
	}
}

// raise replaces the last value by its power.
func (s *stack) raise(k int) {
	base := s.values[len(s.values)-1]
	power := values{{}: whole(1)}
	for i := range k {
		if i == 0 {
			power = base
		} else if s.err == api.OK {
			power, s.err = power.times(base)
		}
	}
	s.values[len(s.values)-1] = power
}

// pushNumber pushes the number.
func (s *stack) pushNumber(token string) {
	mantissa, power, _ := strings.Cut(token, "p")
	m, _ := new(big.Int).SetString(mantissa, 10)
	exp, _ := strconv.ParseInt("0"+power, 10, 64)
	if strings.HasPrefix(power, "-") {
		exp, _ = strconv.ParseInt(power, 10, 64)
	}
	p, err := settled(values{{}: dyadic{m, exp}})
	s.values, s.err = append(s.values, p), err
}

var anyToken = regexp.MustCompile(`[0-9]+(?:p-?[0-9]+)?|x[1-9]|\^[0-9]|.`)

// calculated is the value of an expression that is one.
func calculated(right string) (values, api.Errno) {
	var s stack
	before := "("
	for _, token := range anyToken.FindAllString(strings.ReplaceAll(right, " ", ""), -1) {
		switch c := token[0]; {
		case c == 'x':
			s.values = append(s.values, values{unit(int(token[1] - '1')): whole(1)})
		case c == '^':
			s.raise(int(token[1] - '0'))
		case c == '(':
			s.operators = append(s.operators, c)
		case c == ')':
			s.unwind("*+-n")
			if s.err == api.OK {
				s.operators = s.operators[:len(s.operators)-1]
			}
		case c == '*':
			s.unwind("*")
			s.operators = append(s.operators, c)
		case c == '-' && before == "(":
			s.operators = append(s.operators, 'n')
		case c == '-' || c == '+':
			s.unwind("*+-n")
			s.operators = append(s.operators, c)
		default:
			s.pushNumber(token)
		}
		if s.err != api.OK {
			return nil, s.err
		}
		before = token
	}
	if s.unwind("*+-n"); s.err != api.OK {
		return nil, s.err
	}
	return s.values[0], api.OK
}

// parsed is what Parse has to return.
func parsed(s string) ([][]api.Mono, int, api.Errno) {
	if at := fault(s); at >= 0 {
		return nil, at, api.ErrText
	}
	var f [][]api.Mono
	at, n := 0, strings.Count(s, "\n")
	for line := range strings.Lines(s) {
		p, err := calculated(strings.TrimSuffix(line[len(start):], "\n"))
		if err != api.OK {
			return nil, at, err
		}
		var l []api.Mono
		for _, e := range exps(n, api.MaxDeg) {
			var key [api.MaxDim]int
			copy(key[:], e)
			if c, ok := p[key]; ok {
				x, _ := c.number()
				l = append(l, monoOf(x, e...))
			}
		}
		f, at = append(f, l), at+len(line)
	}
	return f, 0, api.OK
}

func checkParsed(t *testing.T, s string) api.Errno {
	t.Helper()
	want, wantAt, wantErr := parsed(s)
	if got, at, err := Parse(s); err != wantErr || at != wantAt || !equalField(got, want) {
		t.Fatalf("Parse(%q) = %s, %d, %d, not %s, %d, %d", s, text(got), at, err, text(want), wantAt, wantErr)
	}
	return wantErr
}

// P12.2 and P12.3

// TestShortTexts has all short right-hand sides of the bytes that matter.
func TestShortTexts(t *testing.T) {
	const bytes = "01x+-*^() p\n"
	seen := map[api.Errno]int{}
	rights := []string{""}
	for length := range 6 {
		var longer []string
		for _, right := range rights {
			seen[checkParsed(t, start+right)]++
			seen[checkParsed(t, start+right+"\n")]++
			for i := range len(bytes) {
				if length < 5 {
					longer = append(longer, right+bytes[i:i+1])
				}
			}
		}
		rights = longer
	}
	if seen[api.OK] < 1000 || seen[api.ErrText] < 200000 {
		t.Errorf("texts by errors: %v", seen)
	}
}

// TestShortLines has all short texts of the bytes of a line's start.
func TestShortLines(t *testing.T) {
	texts := []string{""}
	for length := range 7 {
		var longer []string
		for _, s := range texts {
			for _, before := range []string{"", "x1' = 0\n", "x1' = 0\nx2' = 0\nx3' = 0\n", "x1' = 0\nx2' = 0\nx3' = 0\nx4' = 0\n"} {
				checkParsed(t, before+s)
				checkParsed(t, before+s+" = 0\n")
			}
			for _, c := range "x12'= \n" {
				if length < 6 {
					longer = append(longer, s+string(c))
				}
			}
		}
		texts = longer
	}
}

// TestEachByte replaces each byte of texts by each other one, or puts it ahead.
func TestEachByte(t *testing.T) {
	for _, s := range []string{
		"x1' = x2\nx2' = -x1 + 3p-1*(x1 + 1)^2\n", "x1' = -((2 - x1)*12p3)^3*x1 \n", "x1' = 0\nx2' = x1^8\nx3' = 10p10\nx4' = x4\n", "x1' = 1p65537 + x1\nx2' = x1^8*x2\n",
		lines(nested("x1", api.MaxDepth)), lines(nested("1", api.MaxDepth)[:30], "1"),
	} {
		for i := range len(s) + 1 {
			checkParsed(t, s[:i])
			for c := range 256 {
				other := string([]byte{byte(c)})
				checkParsed(t, s[:i]+other+s[i:])
				if i < len(s) {
					checkParsed(t, s[:i]+other+s[i+1:])
				}
			}
		}
	}
}

// source yields the same words in every run.
type source uint64

func (s *source) next() uint64 {
	*s += 0x9e3779b97f4a7c15
	x := uint64(*s)
	x = (x ^ x>>30) * 0xbf58476d1ce4e5b9
	x = (x ^ x>>27) * 0x94d049bb133111eb
	return x ^ x>>31
}

func (s *source) below(n int) int { return int(s.next() % uint64(n)) }

// oneOf is one of the texts.
func (s *source) oneOf(texts ...string) string { return texts[s.below(len(texts))] }

func (s *source) blanks() string { return strings.Repeat(" ", s.below(12)/10*(1+s.below(3))) }

func (s *source) numberText() string {
	switch s.below(60) {
	case 0:
		return s.oneOf("1p65536", "1p-65536", "3p65535", "1p65537", "1p-65537", "1p999999", "1p-999999")
	case 1, 2:
		return fmt.Sprintf("%dp%d", 1+s.below(3), 10000+s.below(50000))
	case 3:
		return s.oneOf("01", "1p", "1p-", "0p1", "1p0", "1p1234567")
	case 4:
		return strings.Repeat("7", 1+s.below(1300))
	case 5, 6, 7, 8, 9, 10:
		return fmt.Sprintf("%dp%d", 1+s.below(99), s.below(9)-10)
	}
	return strconv.Itoa(s.below(12))
}

// factor is a factor of a text with n lines, in so many parentheses.
func (s *source) factor(n, depth int) string {
	base := fmt.Sprintf("x%d", 1+s.below(n))
	switch s.below(5) {
	case 0, 1:
		base = s.numberText()
	case 2:
		if depth < 3 || s.below(400) == 0 {
			base = "(" + s.expression(n, depth+1) + ")"
		}
	}
	if s.below(4) == 0 {
		base += s.blanks() + "^" + s.blanks() + s.oneOf("0", "1", "2", "2", "2", "3", "3", "4", "5", "8")
	}
	return s.blanks() + base + s.blanks()
}

func (s *source) expression(n, depth int) string {
	right := s.oneOf("", "", "-", " - ") + s.factor(n, depth)
	for range s.below(9 - depth) {
		right += s.oneOf("+", "-", "*", " + ", " - ") + s.factor(n, depth)
	}
	return right
}

// text is mostly a text, of up to as many lines as there can be.
func (s *source) text() string {
	n := 1 + s.below(api.MaxDim)
	rights := make([]string, n)
	for i := range rights {
		rights[i] = s.expression(n, 0)
	}
	return lines(rights...)
}

// changed is a text in which one byte is another one, or is missing, or stands
// there more, or which ends too early or goes on.
func (s *source) changed(whole string) string {
	const bytes = "0123456789xxxppp+-*^()()   '=\n\n?"
	i, c := s.below(len(whole)), bytes[s.below(len(bytes)):][:1]
	switch s.below(6) {
	case 0:
		return whole[:i]
	case 1:
		return whole + s.text()
	case 2:
		return whole[:i] + whole[i+1:]
	case 3:
		return whole[:i] + c + whole[i+1:]
	}
	return whole[:i] + c + whole[i:]
}

func TestAgainstReference(t *testing.T) {
	s, seen, seenChanged, seenLater := source(1), map[api.Errno]int{}, map[api.Errno]int{}, 0
	for range 12000 {
		whole := s.text()
		seen[checkParsed(t, whole)]++
		if _, at, err := Parse(whole); at > 0 && err != api.ErrText {
			seenLater++
		}
		for range 3 {
			seenChanged[checkParsed(t, s.changed(whole))]++
		}
	}
	for _, seen := range []map[api.Errno]int{seen, seenChanged} {
		if seen[api.OK] < 1000 || seen[api.ErrText] < 1000 || seen[api.ErrOver] < 1000 || seen[api.ErrLong] < 1000 || len(seen) != 4 || seenLater < 1000 {
			t.Errorf("texts by errors: %v, failed in a later line: %d", seen, seenLater)
		}
	}
}

// TestLongSums has so many terms that adding them one by one matters.
func TestLongSums(t *testing.T) {
	s, seen := source(2), map[api.Errno]int{}
	for range 3000 {
		right := s.oneOf("", "-") + "0"
		for range 20 + s.below(20) {
			right += s.oneOf(" + ", " - ") + fmt.Sprintf("x1^%d*x2^%d", s.below(6), s.below(5))
			if s.below(60) == 0 {
				right += s.oneOf("*1p65536", "*1p65536", "*x1^6", "*(1p30000)^3")
			}
		}
		seen[checkParsed(t, lines("x2", right))]++
	}
	if seen[api.OK] < 300 || seen[api.ErrOver] < 300 || seen[api.ErrLong] < 300 {
		t.Errorf("texts by errors: %v", seen)
	}
}

// P12.1 and P12.4

// shownNumber is the text of a number that is not negative.
func shownNumber(x api.Num) string {
	m := dyadicOf(x).m.String()
	if x.Exp == 0 {
		return m
	}
	return fmt.Sprintf("%sp%d", m, x.Exp)
}

var zeroPower = regexp.MustCompile(`\*x.\^0`)

// showField is what Show has to return for a field.
func showField(f [][]api.Mono) string {
	rights := make([]string, len(f))
	for i, p := range f {
		for k, m := range p {
			product := ""
			for j, e := range m.E {
				product += fmt.Sprintf("*x%d^%d", j+1, e)
			}
			product = zeroPower.ReplaceAllString(product, "")
			product = strings.ReplaceAll(product+"*", "^1*", "*")
			sign, c := " + ", m.C
			if c.Neg {
				sign, c = " - ", minus(c)
			}
			if k == 0 {
				sign = strings.TrimSuffix(strings.TrimSpace(sign), "+")
			}
			product = strings.TrimSuffix(shownNumber(c)+product, "*")
			rights[i] += sign + strings.TrimPrefix(product, "1*")
		}
		if len(p) == 0 {
			rights[i] = "0"
		}
	}
	return lines(rights...)
}

// checkInverse expects the text of f, and f for this text.
func checkInverse(t *testing.T, f [][]api.Mono) {
	t.Helper()
	s := Show(f)
	if want := showField(f); s != want {
		t.Fatalf("Show(%s) = %q, not %q", text(f), s, want)
	}
	checkField(t, s, f)
	checkParsed(t, s)
	if t.Failed() {
		t.FailNow()
	}
}

func TestParseInvertsShow(t *testing.T) {
	for n := 1; n <= api.MaxDim; n++ {
		for _, f := range fields(n) {
			checkInverse(t, f)
		}
		for _, e := range exps(n, api.MaxDeg) {
			for _, c := range []int64{1, -1, 2, -3} {
				checkInverse(t, slices.Repeat(fieldOf(list(mono(c, e...))), n))
			}
		}
		for _, c := range []api.Num{of(1, maxExp), of(1, -maxExp), full(maxBits, maxExp), full(maxBits, -maxExp), wide(maxBits, 0), full(64, 1), wide(65, -1)} {
			for _, e := range [][]int{make([]int, n), single(n, n-1), with(single(n, 0), n-1, api.MaxDeg-1)} {
				checkInverse(t, slices.Repeat(fieldOf(list(monoOf(c, e...))), n))
				checkInverse(t, slices.Repeat(fieldOf(list(monoOf(minus(c), e...))), n))
			}
		}
	}
	for exp := int64(-maxExp); exp <= maxExp; exp += 37 {
		checkInverse(t, fieldOf(list(monoOf(of(1, exp), 1), monoOf(of(-3, exp), 0))))
	}
}

// number is mostly near 1, and else of any size. It is not 0.
func (s *source) number() api.Num {
	switch s.below(12) {
	case 0:
		return s.long()
	case 1:
		return of(1-2*int64(s.below(2)), int64(s.below(2*maxExp+1))-maxExp)
	case 2, 3, 4, 5:
		return of(1-2*int64(s.below(2)), 0)
	}
	return odd(int64(1+s.below(19))*(1-2*int64(s.below(2))), int64(s.below(5))-2)
}

// long is a number of up to as many words as there can be.
func (s *source) long() api.Num {
	w := make([]uint64, 1+s.below(api.MaxWords)>>s.below(6))
	for i := range w {
		w[i] = s.next()
	}
	w[0] |= 1
	w[len(w)-1] = w[len(w)-1]>>s.below(64) | 1
	return api.Num{Neg: s.below(2) == 0, Exp: int64(s.below(300)) - 150, W: w}
}

// field is one of n variables.
func (s *source) field(n int) [][]api.Mono {
	f := make([][]api.Mono, n)
	for i := range f {
		left := exps(n, 1+s.below(api.MaxDeg))
		most := s.below(api.MaxTerms+1) >> s.below(5)
		for k, e := range left {
			if s.below(len(left)-k) < most-len(f[i]) {
				f[i] = append(f[i], monoOf(s.number(), e...))
			}
		}
	}
	return f
}

func TestParseInvertsShowOfAny(t *testing.T) {
	s, terms, empty, full := source(3), 0, 0, 0
	for range 3000 {
		f := s.field(1 + s.below(api.MaxDim))
		checkInverse(t, f)
		for _, p := range f {
			terms += len(p)
			switch len(p) {
			case 0:
				empty++
			case api.MaxTerms:
				full++
			}
		}
	}
	if terms < 20000 || empty < 500 || full < 10 {
		t.Errorf("%d terms, %d polynomials without any, %d with MaxTerms of them", terms, empty, full)
	}
}

// TestParseOfNoField: what is no field does not come back as one.
func TestParseOfNoField(t *testing.T) {
	for rule, f := range noFields() {
		if got, at, err := Parse(Show(f)); err != api.ErrText || at != 0 || len(got) > 0 {
			t.Errorf("%s: %s, %d, %d", rule, text(got), at, err)
		}
	}
}
