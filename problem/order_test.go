package problem

import (
	"fmt"
	"slices"
	"testing"

	"fathomline/api"
)

// P13.3: which error comes first where several apply, and the offset of each.

const (
	farWord   = "1p65537"
	longRight = "x2' = x1^8*x2"
	farRight  = "x2' = 1p65537*x1"
)

// farPages are pages with one number that is none by its value.
func farPages() []numberLine {
	l := numberLines()
	return append(l, numberLine{boxLine, "box ", " 1p-65537"}, numberLine{secondBoxLine, "box ", " 1p999999"})
}

// TestTextAheadOfAll: what is wrong in the form of any part comes first.
func TestTextAheadOfAll(t *testing.T) {
	for _, l := range farPages() {
		lines := l.with(farWord)
		field := startOf(lines, fieldLine)
		checkText(t, joined(with(lines, fieldLine, "x1' = )")), field+6)
		checkText(t, joined(with(lines, secondFieldLine, "x2' = 7 +")), len(joined(lines))-1+2)
		checkText(t, joined(lines[:fieldLine]), field)
		checkText(t, joined(inserted(lines, fieldLine, "")), field)
		checkText(t, joined(with(with(lines, fieldLine, "x1' = 1p65537"), secondFieldLine, "x2' = x3")), field+len("x1' = 1p65537\n")+7)
		for i := range fieldLine {
			if i != l.i {
				checkLine(t, with(lines, i, "box"), i)
				checkLine(t, with(lines, i, page()[i]+" 1"), i)
			}
		}
	}
	// in the same line as well
	for _, line := range []string{"box 1p65537 01", "box 1p65537 1p65537 1", "box 01 1p65537", "box 1p65537", "box 1p65537 "} {
		checkLine(t, with(page(), boxLine, line), boxLine)
		checkLine(t, with(page(), secondBoxLine, line), secondBoxLine)
	}
	// and of a problem that is not valid
	for i, line := range []string{"prec 7", "order 11", "budget 9999", "until 0", "most -1", "least 5", "box 1 0", "box 9 8"} {
		lines := with(with(page(), i, line), fieldLine, "x1' = 5 -")
		checkText(t, joined(lines), startOf(lines, fieldLine)+len("x1' = 5 -"))
	}
}

// TestFarNumberAheadOfLater: of two such numbers the first one counts.
func TestFarNumberAheadOfLater(t *testing.T) {
	seen := 0
	for _, l := range farPages() {
		for _, m := range farPages() {
			if m.i <= l.i {
				continue
			}
			lines := with(l.with(farWord), m.i, m.with("-1p-65537")[m.i])
			checkError(t, joined(lines), startOf(lines, l.i), api.ErrOver)
			seen++
		}
		lines := with(l.with(farWord), leastLine, "least 1p-999999")
		checkError(t, joined(lines), startOf(lines, min(l.i, leastLine)), api.ErrOver)
	}
	if seen < 20 {
		t.Errorf("only %d pairs", seen)
	}
	for _, i := range []int{boxLine, secondBoxLine} {
		lines := with(page(), i, "box 1p65537 1p65537")
		checkError(t, joined(lines), startOf(lines, i), api.ErrOver)
	}
}

// TestFarNumberAheadOfField: errors of the field's values come behind.
func TestFarNumberAheadOfField(t *testing.T) {
	for _, l := range farPages() {
		for _, right := range []string{longRight, farRight} {
			for k := fieldLine; k <= secondFieldLine; k++ {
				line := fmt.Sprintf("x%d", k-fieldLine+1) + right[2:]
				lines := with(l.with(farWord), k, line)
				checkError(t, joined(lines), startOf(lines, l.i), api.ErrOver)
			}
		}
	}
}

// TestFarNumberAheadOfForm: that the problem is not valid comes last.
func TestFarNumberAheadOfForm(t *testing.T) {
	for _, l := range farPages() {
		for i, line := range []string{"prec 7", "order 11", "budget 9999", "until 0", "most 1p-99", "least 5", "box 1 0", "box 9 8"} {
			if i != l.i {
				lines := with(l.with(farWord), i, line)
				checkError(t, joined(lines), startOf(lines, l.i), api.ErrOver)
			}
		}
		lines := inserted(l.with(farWord), fieldLine, "box 1 2")
		checkError(t, joined(lines), startOf(lines, l.i), api.ErrOver)
		lines = l.with(farWord)[:secondFieldLine]
		checkError(t, joined(lines), startOf(lines, l.i), api.ErrOver)
	}
}

// TestField has errors of the field's values, alone and with a problem that is
// not valid.
func TestField(t *testing.T) {
	for _, x := range []struct {
		first, second string
		i             int
		err           api.Errno
	}{
		{"x1' = 5", longRight, secondFieldLine, api.ErrLong}, {"x1' = 5", farRight, secondFieldLine, api.ErrOver}, {"x1' = x1^8*x1", "x2' = 7", fieldLine, api.ErrLong}, {"x1' = 1p65537", "x2' = 7", fieldLine, api.ErrOver},
		{"x1' = x1^8*x1", farRight, fieldLine, api.ErrLong}, {"x1' = 1p65537", longRight, fieldLine, api.ErrOver}, {"x1' = 1p60000*1p60000", longRight, fieldLine, api.ErrOver}, {"x1' = (x1 + x2 + 1)^7", farRight, fieldLine, api.ErrLong},
	} {
		lines := with(with(page(), fieldLine, x.first), secondFieldLine, x.second)
		checkError(t, joined(lines), startOf(lines, x.i), x.err)
		for i, line := range []string{"prec 7", "order 11", "budget 9999", "until 0", "most 1p-99", "least 5", "box 1 0", "box 9 8"} {
			wrong := with(lines, i, line)
			checkError(t, joined(wrong), startOf(wrong, x.i), x.err)
		}
		more := inserted(lines, fieldLine, "box 1 2")
		checkError(t, joined(more), startOf(more, x.i+1), x.err)
		less := slices.Delete(slices.Clone(lines), boxLine, secondBoxLine)
		checkError(t, joined(less), startOf(less, x.i-1), x.err)
	}
}
