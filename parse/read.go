package parse

import (
	"strconv"

	"fathomline/api"
	"fathomline/digits"
)

// end stands for the end of the text. A byte 0 in the text does so too: no text
// can continue at either of them.
const end = 0

// reader reads a text from front to back. Once one of its methods has returned
// false, at is the offset of the first byte at which no text can continue.
type reader struct {
	s  string
	at int
	// A variable may come ahead of its line, so that how many there are has to
	// be known from the start.
	variables int
}

// line is the right-hand side of a line that starts at this offset.
type line struct {
	start int
	right tree
}

// lines reads the whole text.
func (r *reader) lines() ([]line, bool) {
	var l []line
	for len(l) == 0 || r.at < len(r.s) {
		next, ok := r.line(len(l) + 1)
		if !ok {
			return nil, false
		}
		l = append(l, next)
	}
	return l, true
}

// line reads line i, counted from 1, and its line feed.
func (r *reader) line(i int) (line, bool) {
	start := r.at
	if i > api.MaxDim || !r.all(lineStart(i)) {
		return line{}, false
	}
	right, ok := r.expression(0)
	if !ok || !r.all("\n") {
		return line{}, false
	}
	return line{start, right}, true
}

// lineStart is what line i starts with, counted from 1.
func lineStart(i int) string { return "x" + strconv.Itoa(i) + "' = " }

// all reads exactly this text.
func (r *reader) all(text string) bool {
	for i := range len(text) {
		if r.here() != text[i] {
			return false
		}
		r.at++
	}
	return true
}

// here returns the next byte.
func (r *reader) here() byte {
	if r.at == len(r.s) {
		return end
	}
	return r.s[r.at]
}

// token skips blanks and returns the first byte of the next token.
func (r *reader) token() byte {
	for r.here() == ' ' {
		r.at++
	}
	return r.here()
}

// expression reads an expression within so many parentheses, and the blanks
// behind it. What has to follow it is not read.
func (r *reader) expression(depth int) (tree, bool) {
	var read sum
	var next term
	if r.token() == '-' {
		r.at++
		next.minus = true
	}
tokens:
	for {
		f, ok := r.factor(depth)
		if !ok {
			return nil, false
		}
		next.factors = append(next.factors, f)
		operator := r.token()
		switch operator {
		case '*':
			r.at++
			continue tokens
		case '+', '-':
			r.at++
		default:
			break tokens
		}
		read = append(read, next)
		next = term{minus: operator == '-'}
	}
	return append(read, next), true
}

// factor reads a base and its exponent, if there is one.
func (r *reader) factor(depth int) (tree, bool) {
	base, ok := r.base(depth)
	if !ok || r.token() != '^' {
		return base, ok
	}
	r.at++
	r.token()
	exp, ok := r.digit(0, api.MaxDeg)
	if !ok {
		return nil, false
	}
	return power{base, exp}, true
}

// base reads a number, a variable or an expression in parentheses.
func (r *reader) base(depth int) (tree, bool) {
	switch first := r.token(); {
	case isDigit(first):
		return r.number()
	case first == 'x':
		r.at++
		number, ok := r.digit(1, r.variables)
		return variable(number - 1), ok
	case first == '(' && depth < api.MaxDepth:
		r.at++
		inner, ok := r.expression(depth + 1)
		return inner, ok && r.all(")")
	}
	return nil, false
}

func isDigit(c byte) bool { return '0' <= c && c <= '9' }

// digit reads one digit from low to high.
func (r *reader) digit(low, high int) (int, bool) {
	value := int(r.here()) - '0'
	if value < low || value > high {
		return 0, false
	}
	r.at++
	return value, true
}

// number reads a number. That no valid number has its value is not an error of
// the text.
func (r *reader) number() (tree, bool) {
	start := r.at
	r.digits()
	if r.here() == 'p' {
		r.at++
		if r.here() == '-' {
			r.at++
		}
		r.digits()
	}
	c, err := digits.Parse(r.s[start:r.at])
	if err == api.ErrText {
		r.at = start
		return nil, false
	}
	return number{c, err}, true
}

// digits skips all digits that follow.
func (r *reader) digits() {
	for isDigit(r.here()) {
		r.at++
	}
}
