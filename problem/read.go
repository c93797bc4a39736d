package problem

import (
	"iter"
	"strconv"
	"strings"

	"fathomline/api"
	"fathomline/digits"
	"fathomline/parse"
)

// Parse returns the problem that s represents. If there is none, it returns
// where s goes wrong, or where the line begins that has no valid value.
func Parse(s string) (api.Problem, int, api.Errno) {
	h, ok := headOf(s)
	if !ok {
		return api.Problem{}, h.at, api.ErrText
	}
	f, at, err := parse.Parse(s[h.at:])
	switch {
	case err == api.ErrText:
		return api.Problem{}, h.at + at, err
	case h.err != api.OK:
		return api.Problem{}, h.errAt, h.err
	case err != api.OK:
		return api.Problem{}, h.at + at, err
	}
	p := h.problem
	p.Field = f
	if !Right(p) {
		return api.Problem{}, 0, api.ErrForm
	}
	return p, 0, api.OK
}

// fixed is the number of lines ahead of those of the box.
const fixed = 6

// head is what has been read of the lines ahead of the field.
type head struct {
	problem api.Problem
	// at is the offset of the first byte that has not been read.
	at, lines int
	// err is the first error of a number that has the form of one. It has to
	// wait until the whole text is known to have the required form.
	err   api.Errno
	errAt int
}

// headOf reads the lines ahead of the field. If they do not have the required
// form, at is the offset of the error.
func headOf(s string) (head, bool) {
	var h head
	for line := range terminated(s) {
		if !h.read(line) {
			return h, h.lines > fixed
		}
		h.at += len(line) + 1
		h.lines++
	}
	if h.lines <= fixed {
		h.at = len(s)
	}
	return h, h.lines > fixed
}

// terminated yields the lines of s without their line feeds. What no line feed
// terminates is not a line.
func terminated(s string) iter.Seq[string] {
	return func(yield func(line string) bool) {
		line, rest, found := strings.Cut(s, "\n")
		for found && yield(line) {
			line, rest, found = strings.Cut(rest, "\n")
		}
	}
}

// read reads the next line, or reports that it does not have the form that is
// required there. Behind a line of the box, the field has to begin there: hence
// one line too many for the box is an error of the field.
func (h *head) read(line string) bool {
	name, words, _ := strings.Cut(line, " ")
	switch p := &h.problem; h.lines {
	case 0:
		return name == "prec" && integer(words, &p.Prec)
	case 1:
		return name == "order" && integer(words, &p.Order)
	case 2:
		return name == "budget" && integer(words, &p.Budget)
	case 3:
		return name == "until" && h.number(words, &p.Until)
	case 4:
		return name == "most" && h.number(words, &p.Most)
	case 5:
		return name == "least" && h.number(words, &p.Least)
	case fixed + api.MaxDim:
		return false
	}
	return name == "box" && h.interval(words)
}

// interval reads the two ends of the next interval of the box. Their order is
// not a matter of the form.
func (h *head) interval(words string) bool {
	var v api.Iv
	lo, hi, _ := strings.Cut(words, " ")
	if !h.number(lo, &v.Lo) || !h.number(hi, &v.Hi) {
		return false
	}
	h.problem.Box = append(h.problem.Box, v)
	return true
}

// number reads a number, for which there may be no valid one.
func (h *head) number(word string, x *api.Num) bool {
	value, err := digits.Parse(word)
	if err == api.ErrOver && h.err == api.OK {
		h.err, h.errAt = err, h.at
	}
	*x = value
	return err != api.ErrText
}

// integer reads 1 to 4 digits of which the first is not 0.
func integer(word string, n *int) bool {
	// strconv.Atoi alone would accept a sign and leading zeros.
	if word == "" || len(word) > 4 || strings.Contains("+-0", word[:1]) {
		return false
	}
	value, err := strconv.Atoi(word)
	*n = value
	return err == nil
}
