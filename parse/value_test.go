package parse

import (
	"fmt"
	"slices"
	"strings"
	"testing"

	"fathomline/api"
)

// P12.3

// far is a number that no valid number has, and long a product of too great a
// degree.
const (
	far  = "1p65537"
	long = "x1^8*x1"
)

// checkRight expects the result of the right-hand side in each line of fields of
// two polynomials.
func checkRight(t *testing.T, right string, want []api.Mono) {
	t.Helper()
	checkField(t, lines(right, "0"), fieldOf(want, nil))
	checkField(t, lines("x2", right), fieldOf(list(mono(1, 0, 1)), want))
}

// checkFails expects that the right-hand side fails in each line of fields of
// each number of lines, whatever fails behind it.
func checkFails(t *testing.T, right string, wantErr api.Errno) {
	t.Helper()
	for n := 2; n <= api.MaxDim; n++ {
		for i := range n {
			before := []string{"0", "-x1 + 1p-7*x2", "  5 "}[:min(i, 3)]
			at := len(lines(before...))
			check(t, lines(append(slices.Clone(before), append([]string{right}, slices.Repeat([]string{"1"}, n-i-1)...)...)...), nil, at, wantErr)
			for _, other := range []string{far, long} {
				check(t, lines(append(slices.Clone(before), append([]string{right}, slices.Repeat([]string{other}, n-i-1)...)...)...), nil, at, wantErr)
			}
		}
	}
}

func TestValues(t *testing.T) {
	for _, x := range []struct {
		right string
		want  []api.Mono
	}{
		{"0", nil}, {"1", list(mono(1, 0, 0))}, {"12", list(mono(12, 0, 0))}, {"12p-2", list(mono(3, 0, 0))}, {"1p65536", list(monoOf(of(1, maxExp), 0, 0))}, {"x1", list(mono(1, 1, 0))}, {"x2", list(mono(1, 0, 1))},
		{"x1 + x2", list(mono(1, 1, 0), mono(1, 0, 1))}, {"x2 + x1", list(mono(1, 1, 0), mono(1, 0, 1))}, {"x1 - x2", list(mono(1, 1, 0), mono(-1, 0, 1))}, {"x2 - x1", list(mono(-1, 1, 0), mono(1, 0, 1))}, {"-x1 - x2", list(mono(-1, 1, 0), mono(-1, 0, 1))},
		{"x1 + x1", list(mono(2, 1, 0))}, {"x1 - x1", nil}, {"-x1 + x1", nil}, {"x1 + 1 - x1", list(mono(1, 0, 0))}, {"0 + 0", nil}, {"0 - x1", list(mono(-1, 1, 0))}, {"x1 - 0", list(mono(1, 1, 0))},
		{"10 - 3 - 2", list(mono(5, 0, 0))}, {"10 - 3 + 2", list(mono(9, 0, 0))}, {"10 - (3 + 2)", list(mono(5, 0, 0))}, {"-10 - 3 - (2 - 7)", list(mono(-8, 0, 0))}, {"1 - (x1 - x2 - 1)", list(mono(-1, 1, 0), mono(1, 0, 1), mono(2, 0, 0))},
		{"x1*x2", list(mono(1, 1, 1))}, {"x2*x1", list(mono(1, 1, 1))}, {"x1*x1", list(mono(1, 2, 0))}, {"3*x1*5*x2*7", list(mono(105, 1, 1))}, {"x1*0", nil}, {"0*x2", nil}, {"(x1 + 1)*(x1 - 1)", list(mono(1, 2, 0), mono(-1, 0, 0))}, {"x1*(x2 + 1)", list(mono(1, 1, 1), mono(1, 1, 0))},
		{"2 + 3*4", list(mono(14, 0, 0))}, {"2*3 + 4", list(mono(10, 0, 0))}, {"(2 + 3)*4", list(mono(20, 0, 0))}, {"2*3^2", list(mono(18, 0, 0))}, {"(2*3)^2", list(mono(36, 0, 0))}, {"2 - 3*4 - 5", list(mono(-15, 0, 0))}, {"2*(3 - 4)*5", list(mono(-10, 0, 0))},
		{"(x1 + x2)^2", list(mono(1, 2, 0), mono(2, 1, 1), mono(1, 0, 2))}, {"(x1 - x2)^3", list(mono(1, 3, 0), mono(-3, 2, 1), mono(3, 1, 2), mono(-1, 0, 3))}, {"3p-1^3", list(monoOf(of(27, -3), 0, 0))}, {"x1^3*x2^5", list(mono(1, 3, 5))}, {"x2^8", list(mono(1, 0, 8))}, {"2^8", list(mono(256, 0, 0))}, {"(-2)^7", list(mono(-128, 0, 0))},
	} {
		checkRight(t, x.right, x.want)
		checkRight(t, "("+x.right+")", x.want)
		checkRight(t, "0 + ("+x.right+") - 0", x.want)
	}
}

// TestPowers has the exponents 0 and 1, also of an expression that is 0, and
// greater ones.
func TestPowers(t *testing.T) {
	one := list(mono(1, 0, 0))
	for base, p := range map[string][]api.Mono{
		"5": list(mono(5, 0, 0)), "x1": list(mono(1, 1, 0)), "0": nil, "(0)": nil, "(x1 - x1)": nil, "(0*x1^8)": nil, "(x1 - x2 + 3)": list(mono(1, 1, 0), mono(-1, 0, 1), mono(3, 0, 0)), "(-7)": list(mono(-7, 0, 0)), "(x1^8)": list(mono(1, 8, 0)), "(1p65536)": list(monoOf(of(1, maxExp), 0, 0)),
		"(x1^8*1p65536 - x2^8)": list(monoOf(of(1, maxExp), 8, 0), mono(-1, 0, 8)),
	} {
		checkRight(t, base+"^0", one)
		checkRight(t, base+"^1", p)
		checkRight(t, "("+base+"^0)^8", one)
		checkRight(t, "("+base+"^1)^1", p)
		checkRight(t, "("+base+"^1)^0", one)
		checkRight(t, "-"+base+"^0", list(mono(-1, 0, 0)))
		for k := 1; k <= api.MaxDeg && len(p) == 0; k++ {
			checkRight(t, fmt.Sprintf("%s^%d", base, k), nil)
		}
	}
	for k := range api.MaxDeg + 1 {
		checkRight(t, fmt.Sprintf("x2^%d", k), list(mono(1, 0, k)))
		checkRight(t, fmt.Sprintf("(3*x1)^%d", k), list(mono([]int64{1, 3, 9, 27, 81, 243, 729, 2187, 6561}[k], k, 0)))
		checkRight(t, fmt.Sprintf("(-x1)^%d", k), list(mono(1-2*int64(k%2), k, 0)))
		product := strings.TrimPrefix(strings.Repeat("*(x1 - 3*x2 + 1p-1)", k), "*")
		if k == 0 || k > 5 {
			continue // more monomials than there can be
		}
		want, _, err := Parse(lines(product, "0"))
		if err != api.OK {
			t.Fatalf("%s: %d", product, err)
		}
		checkRight(t, fmt.Sprintf("(x1 - 3*x2 + 1p-1)^%d", k), want[0])
	}
	for base, wantErr := range map[string]api.Errno{"(" + far + ")": api.ErrOver, far: api.ErrOver, "(" + long + ")": api.ErrLong, "(1p65536 + 1p65536)": api.ErrOver, "(1 - " + far + ")": api.ErrOver} {
		for k := range api.MaxDeg + 1 {
			checkFails(t, fmt.Sprintf("%s^%d", base, k), wantErr) // the base is evaluated, whatever k is
		}
	}
}

// TestLeadingMinus negates the whole first term.
func TestLeadingMinus(t *testing.T) {
	for right, want := range map[string][]api.Mono{
		"-x1^2": list(mono(-1, 2, 0)), "-2^2": list(mono(-4, 0, 0)), "-2^0": list(mono(-1, 0, 0)), "-x1^0": list(mono(-1, 0, 0)), "-0^0": list(mono(-1, 0, 0)), "(-2)^2": list(mono(4, 0, 0)), "(-x1)^2": list(mono(1, 2, 0)), "-(-x1)^3": list(mono(1, 3, 0)), "-(x1)^8": list(mono(-1, 8, 0)),
		"-x1*x2": list(mono(-1, 1, 1)), "-2*3*5": list(mono(-30, 0, 0)), "-2*(-3)": list(mono(6, 0, 0)), "-2*3 + 10": list(mono(4, 0, 0)), "-2*3 - 10": list(mono(-16, 0, 0)), "-2 + 3*4": list(mono(10, 0, 0)), "-2 - 3*4": list(mono(-14, 0, 0)), "-(2 + 3)*4 + 1": list(mono(-19, 0, 0)), "-x1^2*x2^2 - x1": list(mono(-1, 2, 2), mono(-1, 1, 0)),
		"-0": nil, "-(0)": nil, "-0*x1": nil, "-(x1 - x1)": nil, "-(-0)": nil, "-x1 + x1": nil, "-1p65536 + 1p65536": nil, "-x1": list(mono(-1, 1, 0)), "-(x1 - x2 + 1)": list(mono(-1, 1, 0), mono(1, 0, 1), mono(-1, 0, 0)), "-1p-65536": list(monoOf(of(-1, -maxExp), 0, 0)), "3 - (-x1 - 1)": list(mono(1, 1, 0), mono(4, 0, 0)),
	} {
		checkRight(t, right, want)
	}
}

// TestLimits has results that no valid number or no polynomial has, next to ones
// that there are.
func TestLimits(t *testing.T) {
	most := "1" + strings.Repeat("0", 1233) // 5^1233 has 2863 bits
	for right, wantErr := range map[string]api.Errno{
		far: api.ErrOver, "1p-65537": api.ErrOver, "-1p999999": api.ErrOver, "1p-999999": api.ErrOver, "2p65536": api.ErrOver, "2p65535": api.OK, "1p65536": api.OK, "2p-65537": api.OK, "1p-65536": api.OK, "0*" + far: api.ErrOver, "(" + far + ")*0": api.ErrOver, strings.Repeat("9", api.MaxDigits): api.ErrOver, "1" + strings.Repeat("0", api.MaxDigits-1): api.OK, most + "*" + most: api.ErrOver, most + "*x1": api.OK,
		"1p65536*2": api.ErrOver, "1p65535*2": api.OK, "1p-65536*1p-1": api.ErrOver, "1p65536*1p-65536": api.OK, "1p40000^2": api.ErrOver, "1p32768^2": api.OK, "1p32769^2": api.ErrOver, "1p8192^8": api.OK, "1p8193^8": api.ErrOver, "1p4095 + 1": api.OK, "1p4096 + 1": api.ErrOver, "1p4096 - 1": api.OK, "1p4097 - 1": api.ErrOver, "1p65536 + 1p65536": api.ErrOver, "1p65536 - 1p65536": api.OK, "-1p65536 - 1p65536": api.ErrOver, "1p65536 + x1*1p65536": api.OK, "x1*1p65536 + x2 + x1*1p65536": api.ErrOver,
		"x1^8": api.OK, long: api.ErrLong, "x1*x1^8": api.ErrLong, "x1^8*1": api.OK, "x1^4*x2^4": api.OK, "x1^4*x2^5": api.ErrLong, "(x1^2)^4": api.OK, "(x1^2)^5": api.ErrLong, "(x1*x2)^4": api.OK, "(x1*x2)^5": api.ErrLong, "(x1^8 + 1)*(x2 + 1)": api.ErrLong, "x1^8*0*x1": api.OK, "0*x1^8*x1^8": api.OK, "x1^8*(x1 - x1)*x1^8": api.OK, "(x1 - x1)^8*x1^8*x2": api.OK, "(x1^8 - x1^8)*x1": api.OK, "x1^8*x1*0": api.ErrLong, "(x1^8)^0*x1^8": api.OK, "x1^8*5^0*2": api.OK,
		"(x1 + 1)^8": api.OK, "(x1 + x2)^8": api.OK, "(x1 + x2 + 1)^5": api.OK, "(x1 + x2 + 1)^6": api.ErrLong, "(x1 + x2 + 1)^5 + x1^6 + x1^7 + x1^8": api.OK, "(x1 + x2 + 1)^5 + x1^6 + x1^7 + x1^8 + x2^8": api.ErrLong, "(x1 + x2 + 1)^5 + x1^6 + x1^7 + x1^8 - x1^8 + x2^8": api.OK,
	} {
		if wantErr != api.OK {
			checkFails(t, right, wantErr)
			checkFails(t, "1 - 3*("+right+")", wantErr)
			continue
		}
		for i := range 3 {
			s := lines(with([]string{"0", "0", "0"}, i, right)...)
			if f, at, err := Parse(s); err != api.OK || at != 0 || len(f) != 3 {
				t.Errorf("Parse(%q) = %s, %d, %d", s, text(f), at, err)
			}
		}
	}
}

// TestOrder has several operations that fail.
func TestOrder(t *testing.T) {
	sum := func(terms int, rest string) string {
		return "x1^8 + " + strings.Join([]string{"x1^7", "x1^6", "x1^5", "x1^4", "x1^3", "x1^2", "x1", "1", "x2", "x2^2", "x2^3", "x2^4", "x2^5", "x2^6", "x2^7", "x2^8", "x1*x2", "x1*x2^2", "x1*x2^3", "x1*x2^4", "x1*x2^5", "x1*x2^6", "x1*x2^7", "x1^2*x2"}[:terms-1], " + ") + rest
	}
	for right, wantErr := range map[string]api.Errno{
		// Operands from left to right, and each product and sum at once.
		far + " + " + long: api.ErrOver, long + " + " + far: api.ErrLong, far + "*(" + long + ")": api.ErrOver, "(" + long + ")*" + far: api.ErrLong, "1 - " + far + " - " + long: api.ErrOver, "1 - " + long + " - " + far: api.ErrLong,
		long + "*" + far: api.ErrLong, "x1^8*" + far + "*x1": api.ErrOver, "x1^8*(x1*" + far + ")": api.ErrOver, "x1^8*(x1 + " + far + ")": api.ErrOver, far + "*" + long: api.ErrOver, "x1^8*x1*(1p65536*2)": api.ErrLong, "x1^8*(1p65536*2)*x1": api.ErrOver,
		"1p65536*2*(" + long + ")": api.ErrOver, "1p65536*(" + long + ")*2": api.ErrLong, "1p65536*(2*" + long + ")": api.ErrLong, "1p65536*(" + long + ")": api.ErrLong,
		"1p65536 + 1p65536 + " + long: api.ErrOver, "1p65536 + " + long + " + 1p65536": api.ErrLong, "1p65536 + (1p65536 + " + long + ")": api.ErrLong, "-1p65536 - 1p65536 - " + long: api.ErrOver, "-1p65536 - " + long + " - 1p65536": api.ErrLong,
		sum(25, " + "+far): api.ErrLong, sum(24, " + "+far+" + x1^2*x2"): api.ErrOver, sum(24, " + x1^2*x2*"+far): api.ErrOver, sum(25, " - x1^2*x2"): api.ErrLong, sum(24, ""): api.OK, sum(24, " - x2 + x1^2*x2"): api.OK, sum(24, " + x1^2*x2 - x2"): api.ErrLong, sum(24, " + (x1^2*x2 - x2)"): api.OK, sum(24, " + (x1^2*x2 - x2 + "+far+")"): api.ErrOver,
		// A sum or product that fails on the way is not saved by what follows.
		"1p65536 + 1p65536 - 1p65536": api.ErrOver, "1p65536 - 1p65536 + 1p65536": api.OK, "1p65536 + (1p65536 - 1p65536)": api.OK, "1p65536*2*1p-1": api.ErrOver, "1p65536*(2*1p-1)": api.OK, "1p65536*1p-1*2": api.OK, "1p-65536*1p-1*0": api.ErrOver, "0*1p-65536*1p-1": api.OK, "x1^8*x1 - x1^8*x1": api.ErrLong, "1p4096 - 1 + 1": api.OK, "1p4096 + 1 - 1": api.ErrOver,
		// Mul looks at the degree first, and at sums and their number last.
		"x1^8*1p65536*(x1*2)": api.ErrLong, "(x1^8 + 1p65536)*(x1 + 2)": api.ErrLong, "(x1 + x2 + 1)^3*(1p65536*x1^3 + x2^3 + 1p65536)": api.ErrOver, "(x1 + x2 + 1)^3*(x1^3 + x2^3 + 1)": api.ErrLong,
		// Powers from the left.
		"(x1^3*1p40000)^3": api.ErrOver, "(x1^5*1p40000)^2": api.ErrLong, "(x1^4*1p40000)^2": api.ErrOver, "(x1^3*1p30000)^3": api.ErrLong, "(x1^2*1p30000)^5": api.ErrOver, "(x1^2*1p20000)^4": api.ErrOver, "(x1^3*1p-30000)^4": api.ErrLong,
		"(" + long + " + " + far + ")^0": api.ErrLong, "(" + far + " + " + long + ")^0": api.ErrOver, "x1^8*x1^0*" + far + "^0": api.ErrOver, long + "^0": api.OK, "(" + long + ")^0*" + far: api.ErrLong,
	} {
		if wantErr == api.OK {
			if f, at, err := Parse(lines(right, right)); err != api.OK || at != 0 || len(f) != 2 || !equalPoly(f[0], f[1]) {
				t.Errorf("%s: %s, %d, %d", right, text(f), at, err)
			}
			continue
		}
		checkFails(t, right, wantErr)
		checkFails(t, "("+right+")", wantErr)
		checkFails(t, "x2 - ("+right+")*3", wantErr)
	}
}

// TestPowerFromTheLeft has a power whose third factor leads to too many
// monomials, while the square's square has a number that is none.
func TestPowerFromTheLeft(t *testing.T) {
	base := "(1p20000*x1 + 1p20000*x2 + 1p20000*x3 + 1p20000*x4 + 1p20000)"
	check(t, lines("0", base+"^2", "0", "0"), mustParse(t, lines("0", base+"*"+base, "0", "0")), 0, api.OK)
	check(t, lines("0", base+"^3", "0", "0"), nil, 8, api.ErrLong)
	check(t, lines("0", base+"^4", "0", "0"), nil, 8, api.ErrLong)
	check(t, lines("0", "("+base+"^2)^2", "0", "0"), nil, 8, api.ErrOver)
}

func mustParse(t *testing.T, s string) [][]api.Mono {
	t.Helper()
	f, at, err := Parse(s)
	if err != api.OK || at != 0 {
		t.Fatalf("Parse(%q): %d, %d", s, at, err)
	}
	return f
}

// TestManyParts has more parts side by side than could be within each other.
func TestManyParts(t *testing.T) {
	const count = 200000
	checkField(t, lines("1"+strings.Repeat(" + 1", count)), constants(count+1))
	checkField(t, lines("1"+strings.Repeat("-x1", count)), fieldOf(list(mono(-count, 1), mono(1, 0))))
	checkField(t, lines("x1"+strings.Repeat(" * 1", count)), fieldOf(list(mono(1, 1))))
	checkField(t, lines("-0"+strings.Repeat("*((x1 + 1))^2", count/10)), constants(0))
	checkField(t, lines("3"+strings.Repeat(" ", count)+"-"+strings.Repeat(" ", count)+"1"), constants(2))
	wide := strings.Repeat("(1)*", count)
	checkText(t, lines(wide), len(start+wide))
	checkText(t, start+strings.Repeat("(", count), len(start)+api.MaxDepth)
	checkText(t, start+strings.Repeat("9", count), len(start))
	checkText(t, start+"1p"+strings.Repeat("9", count), len(start))
	checkText(t, "x1' = x4"+strings.Repeat("\n", count), len("x1' = x4\n"))
}
