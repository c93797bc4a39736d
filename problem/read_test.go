package problem

import (
	"fmt"
	"slices"
	"strings"
	"testing"

	"fathomline/api"
)

// P13.3: what is accepted, and where a text goes wrong.

// The lines of a text.
const (
	precLine = iota
	orderLine
	budgetLine
	untilLine
	mostLine
	leastLine
	boxLine
	secondBoxLine
	fieldLine
	secondFieldLine
)

// page is the lines of twoVariables.
func page() []string {
	return []string{"prec 64", "order 4", "budget 100", "until 9", "most 1p-2", "least 3p-20", "box -1 1p1", "box 0 3", "x1' = 5", "x2' = 7"}
}

func twoVariables() api.Problem {
	return changed(simple(2), setField(fieldOf(list(mono(5, 0, 0)), list(mono(7, 0, 0)))))
}

// joined is the text of these lines.
func joined(lines []string) string { return strings.Join(append(slices.Clone(lines), ""), "\n") }

// startOf is the offset of the first byte of a line.
func startOf(lines []string, i int) int { return len(joined(lines[:i])) }

func without(lines []string, i int) []string { return slices.Delete(slices.Clone(lines), i, i+1) }

func inserted(lines []string, i int, line string) []string {
	return slices.Insert(slices.Clone(lines), i, line)
}

// checkLine expects that the text goes wrong with this line.
func checkLine(t *testing.T, lines []string, i int) {
	t.Helper()
	checkText(t, joined(lines), startOf(lines, i))
}

func TestAccepted(t *testing.T) {
	checkProblem(t, exampleText, example())
	checkProblem(t, joined(page()), twoVariables())
	for _, x := range []struct {
		i    int
		line string
		c    change
	}{
		{precLine, "prec 8", setPrec(8)}, {precLine, "prec 256", setPrec(256)}, {orderLine, "order 2", setOrder(2)}, {orderLine, "order 10", setOrder(10)}, {budgetLine, "budget 1", setBudget(1)}, {budgetLine, "budget 4096", setBudget(4096)},
		{untilLine, "until 4p-2", setUntil(of(1, 0))}, {untilLine, "until 1p65536", setUntil(of(1, 65536))}, {untilLine, "until 2p-65537", setUntil(of(1, -65536))}, {mostLine, "most 1000", setMost(of(125, 3))}, {mostLine, "most 3p-20", setMost(of(3, -20))}, {leastLine, "least 1p-2", setLeast(of(1, -2))}, {leastLine, "least 256p-10", setLeast(of(1, -2))},
		{boxLine, "box -4 12p-2", setBox([]api.Iv{span(-4, 3), span(0, 3)})}, {secondBoxLine, "box 6p-1 3", setBox([]api.Iv{span(-1, 2), span(3, 3)})}, {secondBoxLine, "box -1p65536 1p-65536", setBox([]api.Iv{span(-1, 2), {Lo: of(-1, 65536), Hi: of(1, -65536)}})},
		{fieldLine, "x1' =   x2*(2 - x1) ", setField(fieldOf(list(mono(-1, 1, 1), mono(2, 0, 1)), list(mono(7, 0, 0))))}, {secondFieldLine, "x2' = 3 - 3", setField(fieldOf(list(mono(5, 0, 0)), nil))},
	} {
		checkProblem(t, joined(with(page(), x.i, x.line)), changed(twoVariables(), x.c))
	}
}

func TestEmpty(t *testing.T) {
	checkText(t, "", 0)
	checkText(t, "\n", 0)
	checkText(t, "\n"+exampleText, 0)
}

// TestEndsAnywhere has strings that end after any byte of a text.
func TestEndsAnywhere(t *testing.T) {
	lines := page()
	whole := joined(lines)
	second, field := startOf(lines, secondBoxLine), startOf(lines, fieldLine)
	for i := range len(whole) {
		switch {
		case i > second && i < field:
			// What no line feed terminates is no line of the box, so that the
			// field has to begin here.
			checkText(t, whole[:i], second)
		case i == startOf(lines, secondFieldLine):
			checkError(t, whole[:i], 0, api.ErrForm)
		default:
			checkText(t, whole[:i], i)
		}
	}
	checkProblem(t, whole, twoVariables())
}

// TestNoLineFeed: what no line feed terminates is no line, whatever it is.
func TestNoLineFeed(t *testing.T) {
	for i := range fieldLine - 1 {
		before := joined(page()[:i])
		for _, s := range append(page(), "zzz", " ", "x1' = x1", "prec 064", "box 1", "until 1p65537", "\x00", strings.Repeat("prec 64 ", 1000)) {
			checkText(t, before+s, len(before+s))
		}
	}
	before := joined(page()[:secondBoxLine])
	for _, s := range []string{"zzz", " ", "box 0 3", "box", "\x00", "box 1p65537 1"} {
		checkText(t, before+s, len(before))
	}
	for _, s := range []string{"x", "x1' = ", "x1' = 5", "x1' = 5 + "} {
		checkText(t, before+s, len(before+s))
	}
}

// TestFirstWrongLine has wrong lines ahead of a last one without a line feed.
func TestFirstWrongLine(t *testing.T) {
	for i := range fieldLine {
		for k := i + 1; k < fieldLine; k++ {
			lines := with(with(page(), k, "wrong"), i, "wrong too")
			checkLine(t, lines, i)
			checkText(t, joined(lines[:k])+"wrong", startOf(lines, i))
			checkText(t, joined(lines[:k])+lines[k]+"\nprec", startOf(lines, i))
		}
	}
}

func TestMissingLine(t *testing.T) {
	for i := range boxLine {
		checkLine(t, without(page(), i), i)
	}
	for i := boxLine; i < fieldLine; i++ {
		checkError(t, joined(without(page(), i)), 0, api.ErrForm)
	}
	field := startOf(page(), fieldLine)
	checkText(t, joined(without(page(), fieldLine)), field+1)
	checkError(t, joined(without(page(), secondFieldLine)), 0, api.ErrForm)
	for i := range fieldLine + 1 {
		if i != secondBoxLine {
			checkText(t, joined(page()[:i]), startOf(page(), i))
		}
	}
	checkText(t, joined(page()[:secondBoxLine]), startOf(page(), secondBoxLine))
}

func TestDoubledLine(t *testing.T) {
	for i, line := range page() {
		switch lines := inserted(page(), i, line); i {
		case boxLine, secondBoxLine:
			checkError(t, joined(lines), 0, api.ErrForm)
		case fieldLine, secondFieldLine:
			checkText(t, joined(lines), startOf(lines, i+1)+1)
		default:
			checkLine(t, lines, i+1)
		}
	}
}

func TestExchangedLines(t *testing.T) {
	for i := range page() {
		for k := range i {
			lines := with(with(page(), i, page()[k]), k, page()[i])
			switch {
			case i == secondBoxLine && k == boxLine:
				checkProblem(t, joined(lines), changed(twoVariables(), setBox([]api.Iv{span(0, 3), span(-1, 2)})))
			case i == secondFieldLine && k == fieldLine, i == secondFieldLine && k == secondBoxLine:
				checkText(t, joined(lines), startOf(lines, k)+1)
			case i == fieldLine && k == secondBoxLine:
				checkLine(t, lines, i)
			default:
				checkLine(t, lines, k)
			}
		}
	}
}

// TestForm has lines that differ from the required form in a single thing.
func TestForm(t *testing.T) {
	for i, line := range page()[:fieldLine] {
		name, words, _ := strings.Cut(line, " ")
		wrong := []string{
			"", " ", name, name + " ", words, " " + words, name + words, name + "\t" + words, name + "=" + words, name + ": " + words, name + " = " + words, "y" + line, name + "x " + words, name[1:] + " " + words, name[:len(name)-1] + " " + words,
			strings.ToUpper(line), strings.ToUpper(name[:1]) + line[1:], line + " 1", line + " x", line + " " + words, line + " " + line, "1 " + line, line + " #", line + ";", line + ".", line + "\x00", "\x00" + line, line + "\xff", "\ufeff" + line, name + "\u00a0" + words,
			" " + line, "  " + line, line + " ", line + "  ", "\t" + line, line + "\t", line + "\r", "\r" + line, line + "\v", strings.ReplaceAll(line, " ", "  "), strings.Replace(line, " ", "\r", 1), strings.Replace(line, " ", "\r ", 1),
		}
		for k, c := range line {
			if c == ' ' {
				wrong = append(wrong, line[:k]+" "+line[k:], line[:k]+line[k+1:], line[:k]+"\t"+line[k+1:], line[:k])
			}
		}
		for _, other := range page()[:secondBoxLine] {
			if otherName, _, _ := strings.Cut(other, " "); otherName != name {
				wrong = append(wrong, otherName+" "+words)
			}
		}
		for _, w := range wrong {
			checkLine(t, with(page(), i, w), i)
		}
		checkLine(t, inserted(page(), i, ""), i)
	}
}

// TestCarriageReturns has them ahead of the line feeds, behind them, and in
// their place, from some line on.
func TestCarriageReturns(t *testing.T) {
	for i := range fieldLine {
		before, behind := joined(page()[:i]), joined(page()[i:])
		checkText(t, before+strings.ReplaceAll(behind, "\n", "\r\n"), len(before))
		checkText(t, before+"\r"+behind, len(before))
		only := before + strings.ReplaceAll(behind, "\n", "\r")
		if i <= boxLine {
			checkText(t, only, len(only))
		} else {
			checkText(t, only, len(before))
		}
	}
}

func TestIntegers(t *testing.T) {
	low, high := []int{api.MinPrec, api.MinOrder, 1}, []int{api.MaxPrec, api.MaxOrder, api.MaxBudget}
	sets := []func(n int) change{setPrec, setOrder, setBudget}
	for i, name := range []string{"prec", "order", "budget"} {
		lines := page()
		for _, word := range []string{
			"", "0", "00", "000", "0000", "00000", "01", "064", "0064", "00064", "004", "10000", "12345", "64000", "99999", "18446744073709551680", "4294967360",
			"+64", "-64", "+4", "-4", "+1", "-1", "--1", "-0", "6.4", "6e1", "0x1", "0b1", "1_0", "1,0", "6a", "a6", "x", "p", "1p1", "1p0", "4p0", "64p0", "\uff16\uff14", "\u0664", "4\x00", "four", "1/2", "/1", ":1", "1:", "1/",
		} {
			checkLine(t, with(lines, i, name+" "+word), i)
		}
		for n := 1; n <= 9999; n++ {
			s := joined(with(lines, i, fmt.Sprintf("%s %d", name, n)))
			if low[i] <= n && n <= high[i] {
				checkProblem(t, s, changed(twoVariables(), sets[i](n)))
			} else {
				checkError(t, s, 0, api.ErrForm)
			}
		}
	}
}

// noNumbers are words for which digits.Parse returns ErrText.
func noNumbers() []string {
	return []string{
		"", "-", "+1", "--1", "-0", "00", "01", "-01", "1p", "1p-", "1p0", "1p-0", "1p01", "1p+1", "1p1234567", "1p-1234567", "0p1", "0p-1", "-0p1", "1P1", "1e1", "1.5", "1/2", "1p1p1", "1p 1", "p1", "p", "x", "x1", "1x", "0x1", "1_0", "1,", "\u0661", "1\x00", "nan", "inf",
		strings.Repeat("9", api.MaxDigits+1), "-" + strings.Repeat("1", api.MaxDigits+1), "1" + strings.Repeat("0", api.MaxDigits) + "p-2000",
	}
}

// farNumbers are words for which digits.Parse returns ErrOver.
func farNumbers() []string {
	return []string{"1p65537", "-1p65537", "1p-65537", "-1p-65537", "2p65536", "3p65537", "2p-65538", "1p999999", "-1p-999999", strings.Repeat("9", api.MaxDigits), "-" + strings.Repeat("7", api.MaxDigits) + "p5"}
}

// numberLine is a line of the page whose words are all numbers, with one of them
// replaced.
type numberLine struct {
	i             int
	before, after string
}

func (l numberLine) with(word string) []string { return with(page(), l.i, l.before+word+l.after) }

// numberLines are all of these, in the order of a text.
func numberLines() []numberLine {
	return []numberLine{{untilLine, "until ", ""}, {mostLine, "most ", ""}, {leastLine, "least ", ""}, {boxLine, "box ", " 1p1"}, {boxLine, "box -1 ", ""}, {secondBoxLine, "box ", " 3"}, {secondBoxLine, "box 0 ", ""}}
}

func TestNumbers(t *testing.T) {
	for _, l := range numberLines() {
		for _, word := range noNumbers() {
			checkLine(t, l.with(word), l.i)
		}
		for _, word := range farNumbers() {
			lines := l.with(word)
			checkError(t, joined(lines), startOf(lines, l.i), api.ErrOver)
		}
	}
}

// TestNumberOfBoxLines has each number of lines of the box and of the field.
func TestNumberOfBoxLines(t *testing.T) {
	for n := 1; n <= api.MaxDim; n++ {
		for k := range 3 * api.MaxDim {
			field := slices.Repeat([]string{"x?' = 0"}, n)
			for i := range field {
				field[i] = fmt.Sprintf("x%d' = 0", i+1)
			}
			head := page()[:boxLine]
			lines := slices.Concat(head, slices.Repeat([]string{"box 1 2"}, k), field)
			switch {
			case k == 0:
				checkLine(t, lines, boxLine)
				checkText(t, joined(head), startOf(lines, boxLine))
			case k > api.MaxDim:
				checkLine(t, lines, boxLine+api.MaxDim)
				checkText(t, joined(lines[:boxLine+k]), startOf(lines, boxLine+api.MaxDim))
			case k == n:
				checkProblem(t, joined(lines), changed(changed(simple(n), setField(make([][]api.Mono, n))), setBox(slices.Repeat([]api.Iv{span(1, 2)}, n))))
			default:
				checkError(t, joined(lines), 0, api.ErrForm)
			}
			if k >= 1 && k <= api.MaxDim {
				checkText(t, joined(lines[:boxLine+k]), startOf(lines, boxLine+k))
			}
		}
	}
}

// TestTooManyBoxLines: the first one too many is wrong, whatever it contains.
func TestTooManyBoxLines(t *testing.T) {
	full := slices.Concat(page()[:boxLine], slices.Repeat([]string{"box 0 1"}, api.MaxDim))
	for _, line := range []string{"box 1 1", "box 1p65537 1", "box 1", "box", "box 01 1", "prec 64"} {
		for _, rest := range [][]string{nil, {"x1' = 0", "x2' = 0", "x3' = 0", "x4' = 0"}, {"x1' = )"}, {"box 2 3"}} {
			checkLine(t, slices.Concat(full, []string{line}, rest), len(full))
		}
	}
}

// TestFieldText: an error of the field is counted from the beginning of the
// whole text.
func TestFieldText(t *testing.T) {
	field := startOf(page(), fieldLine)
	head := joined(page()[:fieldLine])
	for _, x := range []struct {
		s  string
		at int
	}{
		{"", 0}, {"\n", 0}, {"x", 1}, {"x1' = ", 6}, {"x1' = 5\nx2' = 7", 15}, {"x1' = 5\nx2' = )\n", 14}, {"x1' = x3\nx2' = 7\n", 7}, {"x1' = 01\n", 6}, {"x1' = 5 * 12p\nx2' = 7\n", 10}, {"x2' = 5\n", 1}, {"x1' = 5\n\n", 8}, {"x1' = 5\nx2' = 7\n\n", 16}, {"x1' = 5\nx2' = 7\nx2' = 7\n", 17},
		{"x1' = 5\r\nx2' = 7\n", 7}, {" x1' = 5\n", 0}, {"x1'  = 5\n", 4}, {"x1' = 5\nbox 0 3\n", 8}, {"x1' = 5\nprec 64\n", 8}, {"x1' = 5\nx2' = 7\nx3' = 0\nx4' = 0\nx5' = 0\n", 32}, {"x1' = " + strings.Repeat("(", api.MaxDepth+1) + "1\n", 6 + api.MaxDepth},
	} {
		checkText(t, head+x.s, field+x.at)
	}
	checkText(t, joined(page())+exampleText, len(joined(page())))
}

// TestNotValid has texts of the required form whose problem is not valid.
func TestNotValid(t *testing.T) {
	lines := map[int][]string{
		precLine: {"prec 7", "prec 257", "prec 1", "prec 9999"}, orderLine: {"order 1", "order 11", "order 9999"}, budgetLine: {"budget 4097", "budget 9999"},
		untilLine: {"until 0", "until -1", "until -1p-65536"}, mostLine: {"most 0", "most -1", "most 1p-20", "most 47p-24"}, leastLine: {"least 0", "least -3p-20", "least 1", "least 257p-10"},
		boxLine: {"box 1 0", "box 1p-1 1p-2", "box 1p65536 1", "box 0 -1p-65536"}, secondBoxLine: {"box 1 0", "box -1 -2"},
	}
	for i, l := range lines {
		for _, line := range l {
			checkError(t, joined(with(page(), i, line)), 0, api.ErrForm)
			for k, other := range lines {
				checkError(t, joined(with(with(page(), i, line), k, other[0])), 0, api.ErrForm)
			}
		}
	}
}
