package parse

import (
	"fmt"
	"slices"
	"strings"
	"testing"

	"fathomline/api"
)

// P12.2

// start is what the first line starts with.
const start = "x1' = "

// constants is the field of these numbers.
func constants(values ...int64) [][]api.Mono {
	f := make([][]api.Mono, len(values))
	for i, c := range values {
		if c != 0 {
			f[i] = list(mono(c, make([]int, len(values))...))
		}
	}
	return f
}

func TestAccepted(t *testing.T) {
	square := list(mono(1, 2, 0), mono(2, 1, 0), mono(1, 0, 0))
	for _, x := range []struct {
		s    string
		want [][]api.Mono
	}{
		{"x1' = x2\nx2' = -x1 + 3p-1*(x1 + 1)^2\n", fieldOf(list(mono(1, 0, 1)), list(monoOf(of(3, -1), 2, 0), mono(2, 1, 0), monoOf(of(3, -1), 0, 0)))},
		{"x1' = 0\n", constants(0)}, {"x1' = 5\n", constants(5)}, {"x1' = x1\n", fieldOf(list(mono(1, 1)))}, {"x1' = -x1\n", fieldOf(list(mono(-1, 1)))},
		{"x1' = (x1+1)^2\nx2' = 0\n", fieldOf(square, nil)}, {"x1' = 0\nx2' = ((x1+1))^2\n", fieldOf(nil, square)}, {"x1' = (x1+1)*(x1+1)\nx2' = x1*x1+x1+x1+1\n", fieldOf(square, square)},
		{"x1' = 2*3*5\n", constants(30)}, {"x1' = 2-3-5\n", constants(-6)}, {"x1' = 2-(3-5)\n", constants(4)}, {"x1' = 1+2*3^2-4\n", constants(15)}, {"x1' = -1+2\n", constants(1)},
		{"x1' = -(-(-7))\n", constants(-7)}, {"x1' = (-7)*(-x1)\n", fieldOf(list(mono(7, 1)))}, {"x1' = 3-(-x1)\n", fieldOf(list(mono(1, 1), mono(3, 0)))},
		{"x1' = x4\nx2' = x3\nx3' = x2\nx4' = x1\n", fieldOf(list(mono(1, 0, 0, 0, 1)), list(mono(1, 0, 0, 1, 0)), list(mono(1, 0, 1, 0, 0)), list(mono(1, 1, 0, 0, 0)))},
	} {
		checkField(t, x.s, x.want)
	}
}

func TestEmpty(t *testing.T) { checkText(t, "", 0) }

// TestEndsTooEarly has strings that end after any byte of a text, but those that
// end with a line.
func TestEndsTooEarly(t *testing.T) {
	rights := []string{"7 - 3*(12 + 5)^2 * 0 + (1)", "(5)", "2^2 * ((((((((((((((((3))))))))))))))))", "- ( x1 + 2 * x3^8 ) ^ 0 - 12*(x2 + ((x1)))^2 + x3 "}
	for n := 1; n <= len(rights); n++ {
		before, whole := lines(rights[:n-1]...), lines(rights[:n]...)
		for i := len(before) + 1; i < len(whole); i++ {
			checkText(t, whole[:i], i)
			checkText(t, whole[:i]+"\x00", i)
		}
		if f, at, err := Parse(whole); err != api.OK || at != 0 || len(f) != n {
			t.Errorf("Parse(%q) = %s, %d, %d", whole, text(f), at, err)
		}
	}
}

// TestEndsWithNumber has strings that end with a number, or where it must go on.
func TestEndsWithNumber(t *testing.T) {
	for _, before := range []string{start, start + "1 + ", start + "-", start + "(2*", "x1' = 0\nx2' = x1^2 -"} {
		for _, number := range []string{"1p", "1p-", "12p", "305p-", "0p", "00", "01", "0p1", "1p0", "1p-0", "1p1234567"} {
			checkText(t, before+number, len(before))
		}
		for _, number := range []string{"0", "1", "12", "1p1", "3p-2", "12p3", "1p65537", "1p-999999"} {
			checkText(t, before+number, len(before+number))
			checkText(t, before+number+"  ", len(before+number)+2)
		}
	}
}

func TestNumberOfLines(t *testing.T) {
	values := []int64{1, 3, 5, 7, 9, 11, 13, 15, 17}
	most := 0
	for n := 1; n <= len(values); n++ {
		s := ""
		for i, c := range values[:n] {
			s += fmt.Sprintf("x%d' = %d\n", i+1, c)
		}
		if n > api.MaxDim {
			for _, rest := range []string{"", "x", "x1' = 0\n", "y\n\n\n", "\n"} {
				checkText(t, s+rest, most)
			}
			continue
		}
		most = len(s)
		checkField(t, s, constants(values[:n]...))
		checkText(t, s[:len(s)-1], len(s)-1)
		checkText(t, s[:len(s)-1]+"  ", len(s)+1)
		for c := range 256 {
			// Behind MaxDim lines no line starts any more.
			wrong := len(s)
			if c == 'x' && n < api.MaxDim {
				wrong++
			}
			checkText(t, s+string([]byte{byte(c)}), wrong)
			checkText(t, s+string([]byte{byte(c)})+s, wrong)
		}
	}
}

// TestLineStarts has each wrong byte at each place of each line's start.
func TestLineStarts(t *testing.T) {
	for i := 1; i <= api.MaxDim; i++ {
		before := lines(slices.Repeat([]string{"0"}, i-1)...)
		right := fmt.Sprintf("x%d' = ", i)
		for place := range right {
			low, high := before+right[:place], right[place+1:]+"0\n"
			for c := range 256 {
				if byte(c) != right[place] {
					checkText(t, low+string([]byte{byte(c)})+high, len(low))
				}
			}
			checkText(t, low+high, len(low))
			if place > 0 {
				checkText(t, low, len(low))
			}
		}
		for place, wrong := range []int{0, 1, 2, 4, 4} {
			checkText(t, before+right[:place]+" "+right[place:]+"0\n", len(before)+wrong)
		}
		checkField(t, before+right[:5]+" "+right[5:]+"0\n", make([][]api.Mono, i))
		checkText(t, before+fmt.Sprintf("x0%d' = 0\n", i), len(before)+1)
		checkText(t, before+fmt.Sprintf("x%d0' = 0\n", i), len(before)+2)
	}
}

// tokens are those of a right-hand side.
var tokens = []string{"-", "(", "3p-1", "*", "x1", "+", "x2", ")", "^", "2", "*", "x2", "-", "12", "*", "(", "(", "0", ")", "-", "x1", "^", "3", ")"}

func TestBlanks(t *testing.T) {
	want, _, err := Parse(lines("0", strings.Join(tokens, "")))
	if err != api.OK || Show(want) != lines("0", "3p2*x1^3 - 9p-2*x1^2*x2 - 3*x1*x2^2 - x2^3") {
		t.Fatalf("without blanks: %s, %d", text(want), err)
	}
	before := len(lines("0") + start)
	for gap := range len(tokens) + 1 {
		low, high := strings.Join(tokens[:gap], ""), strings.Join(tokens[gap:], "")
		for count := 1; count <= 3; count++ {
			checkField(t, lines("0", low+strings.Repeat(" ", count)+high), want)
		}
		// Nothing else is a blank, behind a blank or not.
		for _, other := range "\t\r\v\f\u00a0\u2003\x00_;\\" {
			checkText(t, lines("0", low+string(other)+high), before+len(low))
			checkText(t, lines("0", low+"  "+string(other)+" "+high), before+len(low)+2)
		}
	}
	checkField(t, lines("0", strings.Join(tokens, " ")), want)
	checkField(t, lines("0", strings.Repeat(" ", 99)+strings.Join(tokens, "    ")+strings.Repeat(" ", 99)), want)
}

// TestBlanksWithin has blanks within a token.
func TestBlanksWithin(t *testing.T) {
	for _, before := range []string{"", "1 + ", "-", "(", "2*", "(1)^2 - "} {
		for _, x := range []struct {
			right string
			at    int
		}{
			{"1 2", 2}, {"1  2", 3}, {"12 3p4", 3}, {"3 p4", 2}, {"3p 4", 0}, {"3p -4", 0}, {"3p- 4", 0}, {"3p-4 5", 5}, {"3p4 5", 4},
			{"x 1", 1}, {"x  1", 1}, {"x1 1", 3}, {"x\t1", 1}, {"x1^2 3", 5}, {"x1^ 2 3", 6},
		} {
			checkText(t, lines(before+x.right+")"), len(start+before)+x.at)
		}
	}
}

// TestNumbers has numbers that digits.Parse rejects, in all surroundings.
func TestNumbers(t *testing.T) {
	wrong := []string{"00", "01", "007", "0p1", "0p-1", "0p", "0p-", "0p0", "1p", "1p-", "1p0", "1p-0", "1p01", "1p-01", "12p", "1p1234567", "1p-1234567", strings.Repeat("9", api.MaxDigits+1), "1" + strings.Repeat("0", api.MaxDigits)}
	for _, number := range wrong {
		for _, before := range []string{"", "-", " ", "1 + ", "x1 - ", "x1*", "(", "((-", "x1^2 * (x1 - "} {
			for _, after := range []string{"", " ", "+ 1", "- 1", "*x1", "^2", ")", "x", "x1", "(", ")))", "?", " p", " 2", "\n"} {
				checkText(t, lines(before+number+after), len(start+before))
			}
		}
	}
}

// TestLongestNumber has what follows a number at once.
func TestLongestNumber(t *testing.T) {
	for _, x := range []struct {
		right string
		at    int
	}{
		{"1p2p3", 3}, {"1p-2p3", 4}, {"1p2p", 3}, {"1p--2", 0}, {"1p-", 0}, {"1p-x1", 0}, {"1p+2", 0}, {"1p*2", 0}, {"1p(2)", 0}, {"1pp", 0}, {"1px1", 0}, {"1p^2", 0}, {"1p)", 0},
		{"1x1", 1}, {"12x1", 2}, {"1(2)", 1}, {"1p2x1", 3}, {"1p2(3)", 3}, {"1.5", 1}, {"1e5", 1}, {"1P5", 1}, {"0x1", 1}, {"1_000", 1}, {"1'", 1}, {"1,5", 1}, {"p1", 0}, {"p", 0}, {".5", 0},
		{"(1p2-3p)", 5}, {"1p2-p", 4}, {"1p2--3", 4},
	} {
		checkText(t, lines(x.right), len(start)+x.at)
	}
	for right, want := range map[string]int64{"1p2-3": 1, "1p2-3p1": -2, "1p2+3": 7, "3p-1*2": 3, "8p-2-1": 1, "1p2*3": 12, "1p2^3": 64, "2p2^2": 64, "(1p2)": 4, "-1p2": -4, "10": 10, "0": 0, "0-0": 0, "1p1": 2, "65536p-16": 1, "3p1-3p1": 0} {
		checkField(t, lines(right), constants(want))
	}
	most := "1" + strings.Repeat("0", api.MaxDigits-1)
	checkField(t, lines(most+"-"+most), constants(0))
	if f, _, err := Parse(lines(most)); err != api.OK || len(f) != 1 || len(f[0]) != 1 || f[0][0].C.Exp != api.MaxDigits-1 {
		t.Errorf("a number of MaxDigits digits: %s, %d", text(f), err)
	}
}

// TestVariables has each digit, in texts with each number of line feeds.
func TestVariables(t *testing.T) {
	for feeds := range 3 * api.MaxDim {
		for digit := range 10 {
			exists := 1 <= digit && digit <= min(feeds, api.MaxDim)
			for i := range min(feeds, api.MaxDim) {
				rights := with(slices.Repeat([]string{"0"}, feeds), i, fmt.Sprintf("x%d", digit))
				s := lines(rights...)
				switch {
				case !exists:
					checkText(t, s, len(lines(rights[:i]...)+start)+1)
				case feeds > api.MaxDim:
					checkText(t, s, len(lines(rights[:api.MaxDim]...)))
				default:
					checkField(t, s, with(make([][]api.Mono, feeds), i, list(mono(1, single(feeds, digit-1)...))))
				}
			}
			// Line feeds count wherever they are, also behind what is wrong.
			wrong := len(start) + 1
			if exists {
				wrong += 2
			}
			checkText(t, fmt.Sprintf("x1' = x%d ?", digit)+strings.Repeat("\n", feeds), wrong)
			checkText(t, fmt.Sprintf("x1' = x%d )", digit)+strings.Repeat("\n", feeds)+"x2' = 0", wrong)
		}
	}
}

// TestNoVariables has what is no variable.
func TestNoVariables(t *testing.T) {
	for _, x := range []struct {
		right string
		at    int
	}{
		{"x", 1}, {"x ", 1}, {"x)", 1}, {"x+1", 1}, {"x-1", 1}, {"x^2", 1}, {"x(1)", 1}, {"xx1", 1}, {"xp", 1}, {"x-", 1}, {"x\xff", 1}, {"x\u00b9", 1}, {"x\u0661", 1},
		{"x11", 2}, {"x12", 2}, {"x10", 2}, {"x1p2", 2}, {"x1x2", 2}, {"x1(2)", 2}, {"x1'", 2}, {"x1' = 0", 2}, {"x1.", 2}, {"X1", 0}, {"y1", 0}, {"\u0445" + "1", 0}, {"1x", 1}, {"x1 x2", 3}, {"x1 2", 3}, {"x1  (x2)", 4},
	} {
		checkText(t, lines(x.right, "0"), len(start)+x.at)
		checkText(t, lines("0", "(1 - "+x.right+")"), len(lines("0")+start+"(1 - ")+x.at)
	}
}

func TestExponents(t *testing.T) {
	for _, blanks := range []string{"^", " ^", "^ ", "  ^  "} {
		for k := range 10 {
			s := lines(fmt.Sprintf("x1%s%d", blanks, k))
			if k > api.MaxDeg {
				checkText(t, s, len(start+"x1"+blanks))
				continue
			}
			checkField(t, s, fieldOf(list(mono(1, k))))
			checkField(t, lines(fmt.Sprintf("2%s%d", blanks, k)), constants(1<<k))
			checkField(t, lines(fmt.Sprintf("1 - (-2)%s%d*3", blanks, k)), constants(1-int64(1-k%2*2)<<k*3))
			// No exponent has two digits or an exponent of its own.
			for _, next := range []string{"0", "1", "9", "^", "^2", "p1", "x1", "(1)", ")", "'", "."} {
				for _, space := range []string{"", " ", "   "} {
					checkText(t, lines(fmt.Sprintf("x1%s%d%s", blanks, k, space)+next), len(start+"x1"+blanks)+1+len(space))
				}
			}
		}
		for _, wrong := range []string{"", "-1", "+1", "-", "x1", "(2)", "p1", "^2", "*2", ")", "\xb2", "\u00b2", "/", ":", "A", "\x00"} {
			checkText(t, lines("x1"+blanks+wrong), len(start+"x1"+blanks))
			checkText(t, lines("0", "3*(12"+blanks+wrong+")"), len(lines("0")+start+"3*(12"+blanks))
		}
	}
}

// nested is s in so many parentheses.
func nested(s string, depth int) string {
	return strings.Repeat("(", depth) + s + strings.Repeat(")", depth)
}

func TestDepth(t *testing.T) {
	for depth := range api.MaxDepth + 1 {
		checkField(t, lines(nested("x1", depth)), fieldOf(list(mono(1, 1))))
		checkField(t, lines(nested("7", depth)+"^2 - "+nested(" 2 ", depth)), constants(47))
		checkField(t, lines(strings.Repeat("(-", depth)+"5"+strings.Repeat(")", depth)), constants(5-10*int64(depth%2)))
		checkField(t, lines(strings.Repeat("(1+2*", depth)+"1"+strings.Repeat(")", depth)), constants(2<<depth-1))
		checkField(t, lines(nested(nested("3", depth)+"*"+nested("5", depth), api.MaxDepth-depth)), constants(15))
		// Parentheses that are closed count no more.
		checkField(t, lines("0"+strings.Repeat(" + "+nested("1", depth), 40)), constants(40))
	}
	for depth := api.MaxDepth + 1; depth < 3*api.MaxDepth; depth++ {
		for _, before := range []string{"", "-", "2*", nested("1", api.MaxDepth) + " + ", "(1)*(2)^3 - "} {
			for _, inner := range []string{"x1", "1", "", "(", ")", "-", "?", "1p", "x1 + (1)"} {
				checkText(t, lines(before+nested(inner, depth)), len(start+before)+api.MaxDepth)
			}
			checkText(t, start+before+strings.Repeat("(", depth), len(start+before)+api.MaxDepth)
			checkText(t, start+before+strings.Repeat(" ( ", depth), len(start+before)+3*api.MaxDepth+1)
		}
	}
	inner := nested("1", api.MaxDepth-2)
	checkField(t, lines("(("+inner+"+"+inner+"))"), constants(2))
	checkText(t, lines("(("+inner+"+("+inner+")))"), len(start+"(("+inner+"+(")+api.MaxDepth-3)
}

// TestParentheses has such that are not closed or not open.
func TestParentheses(t *testing.T) {
	for _, x := range []struct {
		right string
		at    int
	}{
		{")", 0}, {"()", 1}, {"( )", 2}, {"(", 1}, {"(1", 2}, {"(1 ", 3}, {"1)", 1}, {"(1))", 3}, {"(1) )", 4}, {"((1)", 4}, {"(1)(2)", 3}, {"(1) (2)", 4}, {"(1)2", 3}, {"(1)x1", 3}, {"(1+)", 3}, {"(+1)", 1}, {"(*1)", 1}, {"(1*)", 3}, {"(1^)", 3}, {"(^1)", 1}, {"(-)", 2}, {"(1-)", 3}, {"(1]", 2}, {"[1]", 0}, {"{1}", 0}, {"(1}", 2}, {"(1)^(2)", 4}, {"(1)p2", 3}, {"((((", 4}, {"(1(", 2}, {"(x1(", 3},
	} {
		checkText(t, lines(x.right), len(start)+x.at)
		checkText(t, lines("2*"+x.right), len(start+"2*")+x.at)
	}
}

// TestOperators has operators without an operand, and operands without an
// operator between them.
func TestOperators(t *testing.T) {
	for _, x := range []struct {
		right string
		at    int
	}{
		{"", 0}, {" ", 1}, {"   ", 3}, {"+", 0}, {"+1", 0}, {"-", 1}, {"- ", 2}, {"--1", 1}, {"- -1", 2}, {"-+1", 1}, {"*", 0}, {"*1", 0}, {"-*1", 1}, {"^2", 0}, {"-^2", 1}, {"/2", 0},
		{"1+", 2}, {"1 + ", 4}, {"1++1", 2}, {"1+-1", 2}, {"1-+1", 2}, {"1--1", 2}, {"1 - -1", 4}, {"1+*1", 2}, {"1*", 2}, {"1 *  ", 5}, {"1**1", 2}, {"1*-1", 2}, {"1*+1", 2}, {"1*^2", 2}, {"1+^2", 2}, {"1/2", 1}, {"1 / 2", 2}, {"1%2", 1}, {"1=1", 1}, {"1'", 1}, {"1 x1", 2}, {"x1 x1", 3}, {"x1 1", 3},
		{"1,2", 1}, {"1;2", 1}, {"1!", 1}, {"1#", 1}, {"1//2", 1}, {"1\u2212" + "2", 1}, {"1\u00b7" + "2", 1}, {"\u2212" + "1", 0}, {"\x001", 0}, {"1\x00", 1}, {"\xff", 0}, {"1\r", 1}, {"1\t", 1}, {"\t1", 0},
	} {
		checkText(t, lines(x.right), len(start)+x.at)
		checkText(t, lines("0", x.right, "0"), len(lines("0")+start)+x.at)
		if strings.Contains(x.right, "x") {
			continue // without a line feed there is no variable
		}
		checkText(t, start+x.right, len(start)+x.at)
		checkText(t, start+x.right+"\x00", len(start)+x.at)
	}
}

// TestTextFirst has lines that cannot be evaluated ahead of one that is no text.
func TestTextFirst(t *testing.T) {
	over, long := []string{"1p65537", "1p65536*2", "1p-65536*1p-1", "1p65536 + 1p65536"}, []string{"x1^8*x1", "(x1^2)^5", "x1^5*x1^5", "(1 + x1 + x2 + x3)^4", "x1^8*x1*1p65537"}
	for _, right := range slices.Concat(over, long) {
		wantErr := api.ErrOver
		if slices.Contains(long, right) {
			wantErr = api.ErrLong
		}
		check(t, lines(right, "0", "0"), nil, 0, wantErr)
		for _, x := range []struct {
			right string
			at    int
		}{
			{")", 0}, {"", 0}, {"1p", 0}, {"x5", 1}, {"x1^9", 3}, {"1 + ", 4}, {"(1", 2}, {nested("1", 17), 16}, {"1 2", 2}, {right + "+", len(right) + 1}, {right + ")", len(right)},
		} {
			s := lines(right, x.right, "0")
			checkText(t, s, len(lines(right)+start)+x.at)
			checkText(t, lines("0", right, x.right), len(lines("0", right)+start)+x.at)
		}
		// Also later in the same line, and behind all lines.
		checkText(t, lines("0", "0", right+" + 1p"), len(lines("0", "0")+start+right+" + "))
		checkText(t, lines("0", "0", right)+"x5", len(lines("0", "0", right))+1)
		checkText(t, lines("0", "0", right)+"\n", len(lines("0", "0", right)))
		checkText(t, lines("0", "0", right, "0")+"\n", len(lines("0", "0", right, "0")))
		checkText(t, lines("0", "0", right)+"x4' = 0", len(lines("0", "0", right))+7)
	}
}
