package digits

import (
	"math"
	"slices"
	"strings"
	"testing"

	"fathomline/api"
	"fathomline/num"
)

const (
	all     = math.MaxUint64
	maxBits = 64 * api.MaxWords
	maxExp  = api.MaxExp
)

// of is m times 2^exp, as it is written: valid if m is odd.
func of(m, exp int64) api.Num {
	if m < 0 {
		return api.Num{Neg: true, Exp: exp, W: []uint64{-uint64(m)}}
	}
	return api.Num{Exp: exp, W: []uint64{uint64(m)}}
}

func words(exp int64, w ...uint64) api.Num { return api.Num{Exp: exp, W: w} }

func minus(x api.Num) api.Num {
	x.Neg = !x.Neg
	return x
}

// full is 2^bits - 1 times 2^exp.
func full(bits int, exp int64) api.Num {
	w := slices.Repeat([]uint64{all}, (bits+63)/64)
	w[len(w)-1] >>= uint(64*len(w) - bits)
	return api.Num{Exp: exp, W: w}
}

func equal(a, b api.Num) bool {
	return a.Neg == b.Neg && a.Exp == b.Exp && slices.Equal(a.W, b.W)
}

func isZero(x api.Num) bool { return equal(x, api.Num{}) }

// pair is a valid number and its text.
type pair struct {
	x    api.Num
	text string
}

func pairs() []pair {
	return []pair{
		{api.Num{}, "0"}, {api.Num{W: []uint64{}}, "0"},
		{of(1, 0), "1"}, {of(-1, 0), "-1"}, {of(9, 0), "9"}, {of(11, 0), "11"}, {of(-101, 0), "-101"},
		{of(3, -2), "3p-2"}, {of(-3, -2), "-3p-2"}, {of(3, 2), "3p2"}, {of(-3, 2), "-3p2"},
		{of(1, 1), "1p1"}, {of(1, -1), "1p-1"}, {of(7, 10), "7p10"}, {of(7, -100), "7p-100"}, {of(5, 4096), "5p4096"},
		{of(1, maxExp), "1p65536"}, {of(1, -maxExp), "1p-65536"}, {of(-1, maxExp), "-1p65536"}, {of(-1, -maxExp), "-1p-65536"},
		{of(math.MaxInt64, 0), "9223372036854775807"}, {words(0, 1<<63+1), "9223372036854775809"},
		{words(0, 9_999_999_999_999_999_999), "9999999999999999999"},
		{words(0, 10_000_000_000_000_000_001), "10000000000000000001"},
		{words(0, all), "18446744073709551615"}, {words(-7, 1, 1), "18446744073709551617p-7"},
		{minus(words(12, all, all)), "-340282366920938463463374607431768211455p12"},
		{words(0, 1, 0, 1), "340282366920938463463374607431768211457"},
		// 10^38 + 1 and 10^38 - 1: whole groups of zeros and of nines.
		{words(0, 687399551400673281, 5421010862427522170), "100000000000000000000000000000000000001"},
		{words(0, 687399551400673279, 5421010862427522170), "99999999999999999999999999999999999999"},
	}
}

// invalid are numbers that break one rule of P2.1 each, by the rule.
func invalid() map[string]api.Num {
	return map[string]api.Num{
		"0 that is negated":            {Neg: true},
		"0 with an exponent above":     {Exp: 1},
		"0 with an exponent below":     {Exp: -1},
		"0 of one word":                words(0, 0),
		"0 of words":                   words(0, 0, 0, 0),
		"highest word 0":               words(0, 1, 0),
		"highest words 0":              words(3, 3, 5, 0, 0),
		"lowest bit 0":                 of(2, 0),
		"lowest bit 0, negated":        of(-6, 3),
		"lowest word 0":                words(0, 0, 1),
		"one word too many":            full(maxBits+64, 0),
		"one bit too many":             full(maxBits+1, 0),
		"zero words beyond the last":   words(0, append(full(maxBits, 0).W, 0)...),
		"many words too many":          full(100*maxBits, 0),
		"exponent above MaxExp":        of(1, maxExp+1),
		"exponent below -MaxExp":       of(1, -maxExp-1),
		"exponent above, negated":      of(-3, maxExp+1),
		"greatest exponent":            of(1, math.MaxInt64),
		"least exponent":               of(1, math.MinInt64),
		"0 with the greatest exponent": {Exp: math.MaxInt64},
		"0 with the least exponent":    {Exp: math.MinInt64},
		"everything at once":           {Neg: true, Exp: math.MinInt64, W: make([]uint64, 70)},
	}
}

// P4.1

func TestText(t *testing.T) {
	for _, p := range pairs() {
		if got := Text(p.x); got != p.text {
			t.Errorf("Text(%v) = %q, not %q", p.x, got, p.text)
		}
	}
}

func TestTextOfInvalid(t *testing.T) {
	for rule, x := range invalid() {
		if got := Text(x); got != "" {
			t.Errorf("Text: %s: %.40q", rule, got)
		}
	}
}

// TestTextOfMostWords: 2^4096 - 1 has 1234 digits.
func TestTextOfMostWords(t *testing.T) {
	const head, tail = "-104438888141315250669175271071", "436090243804708340403154190335p-65536"
	got := Text(minus(full(maxBits, -maxExp)))
	if len(got) != len("-")+1234+len("p-65536") || !strings.HasPrefix(got, head) || !strings.HasSuffix(got, tail) {
		t.Errorf("Text of 4096 bits: %d bytes, %q", len(got), got)
	}
}

// P4.2

func TestParse(t *testing.T) {
	for _, p := range pairs() {
		if got, err := Parse(p.text); err != api.OK || !equal(got, p.x) {
			t.Errorf("Parse(%q) = %v, %d", p.text, got, err)
		}
	}
}

// TestParseOther parses texts that Text does not return.
func TestParseOther(t *testing.T) {
	for _, p := range []pair{
		{of(1, 1), "2"}, {of(-1, 1), "-2"}, {of(3, 2), "12"}, {of(-3, 2), "-12"}, {of(5, 1), "10"}, {of(25, 2), "100"},
		{of(5, 0), "40p-3"}, {of(-5, 0), "-40p-3"}, {of(5, 3), "20p1"}, {of(5, 1), "20p-1"}, {of(1, 0), "2p-1"},
		{of(1, 64), "18446744073709551616"}, {of(1, 63), "9223372036854775808"}, {of(1, 65), "36893488147419103232"},
		{words(19, 19073486328125), "10000000000000000000"}, {minus(words(18, 19073486328125)), "-10000000000000000000p-1"},
		{of(1, maxExp), "2p65535"}, {of(-1, maxExp), "-4p65534"}, {of(1, -maxExp), "2p-65537"}, {of(1, -maxExp), "4p-65538"},
		{of(3, -maxExp), "12p-65538"}, {of(1, 16-maxExp), "65536p-65536"},
	} {
		if got, err := Parse(p.text); err != api.OK || !equal(got, p.x) {
			t.Errorf("Parse(%q) = %v, %d", p.text, got, err)
		}
	}
}

func expectNoNumber(t *testing.T, s string) {
	t.Helper()
	if got, err := Parse(s); err != api.ErrText || !isZero(got) {
		t.Errorf("Parse(%.40q), %d bytes: %v, %d", s, len(s), got, err)
	}
}

func TestParseNoNumber(t *testing.T) {
	for _, s := range []string{
		"", "-", "--", "--1", "---", "+", "+1", "-+1", "+-1", "1-", "-1-", "1-1",
		"-0", "-00", "00", "01", "-01", "001", "010", "0000000000000000000000", "-0p1", "00p1", "01p1",
		"0p", "0p0", "0p1", "0p-1", "0p-", "0p65536", "0-", "00000000000000000001",
		"p", "p1", "-p", "-p1", "pp", "1pp1", "1p", "-1p", "1p-", "-1p-", "1p--1", "1p+1", "1p1-", "1p-1-", "1p1p", "1p1p1", "1p1p-1",
		"1p0", "1p-0", "1p00", "1p01", "1p-01", "1p001", "1p000001", "1p0000001", "1p-000001",
		"1P1", "1e1", "1E5", "1.5", ".5", "5.", "1,000", "1_000", "0x1", "0b1", "0o7", "a", "x1", "1x", "ff", "1p1x", "1px1", "1p1_0",
		" ", " 1", "1 ", "- 1", "1 p1", "1p 1", "1p1 ", "1 1", "\t1", "1\n", "\n1", "1\r\n", "\x001", "1\x00", "1p1\x00",
		"１", "1１", "1p１", "−1", "٣", "\xff", "1\xff", "½", "inf", "NaN", "-inf", "true",
	} {
		expectNoNumber(t, s)
	}
}

func TestParseBytes(t *testing.T) {
	for c := range 256 {
		b := string([]byte{byte(c)})
		if strings.Contains("0123456789-p", b) {
			continue
		}
		for _, s := range []string{"7", "-7", "123", "5p3", "5p-3", "-12345678901234567890123p-123456"} {
			for i := range len(s) + 1 {
				expectNoNumber(t, s[:i]+b+s[i:])
				if i < len(s) {
					expectNoNumber(t, s[:i]+b+s[i+1:])
				}
			}
		}
	}
}

// TestParseCountOfDigits: the count of digits decides ahead of their value.
func TestParseCountOfDigits(t *testing.T) {
	zeros := strings.Repeat("0", api.MaxDigits-1)
	for _, sign := range []string{"", "-"} {
		for _, tail := range []string{"", "p1", "p-1", "p65536", "p-65536"} {
			if got, err := Parse(sign + "1" + zeros + tail); tail == "p65536" {
				if err != api.ErrOver || !isZero(got) {
					t.Errorf("Parse of %s10^1299%s: %d", sign, tail, err)
				}
			} else if err != api.OK || !num.Right(got) || got.Neg != (sign == "-") || len(got.W) != 48 {
				t.Errorf("Parse of %s10^1299%s: %v, %d", sign, tail, got, err)
			}
			expectNoNumber(t, sign+"10"+zeros+tail)
			expectNoNumber(t, sign+"0"+zeros+tail)
			expectNoNumber(t, sign+"00"+zeros+tail)
			expectNoNumber(t, sign+strings.Repeat("9", api.MaxDigits+1)+tail)
			expectNoNumber(t, sign+strings.Repeat("9", 100*api.MaxDigits)+tail)
		}
	}
	expectNoNumber(t, strings.Repeat("1", 1<<20))
	expectNoNumber(t, strings.Repeat("0", 1<<20))
	expectNoNumber(t, strings.Repeat("-", 1<<20))
	expectNoNumber(t, "1p"+strings.Repeat("1", 1<<20))
}

func TestParseCountOfExponentDigits(t *testing.T) {
	for _, sign := range []string{"", "-"} {
		for _, digits := range []string{"1", "12", "123", "1234", "12345"} {
			if got, err := Parse("1p" + sign + digits); err != api.OK || Text(got) != "1p"+sign+digits {
				t.Errorf("Parse of 1p%s%s: %v, %d", sign, digits, got, err)
			}
		}
		for _, digits := range []string{"100000", "123456", "999999"} {
			if got, err := Parse("1p" + sign + digits); err != api.ErrOver || !isZero(got) {
				t.Errorf("Parse of 1p%s%s: %v, %d", sign, digits, got, err)
			}
		}
		for _, digits := range []string{"1000000", "1234567", "9999999", "0000001", "18446744073709551617", "4294967297"} {
			expectNoNumber(t, "1p"+sign+digits)
			expectNoNumber(t, "-1p"+sign+digits)
		}
	}
}

// TestParseOver: a value is over if its exponent or its bits are, and not if
// only the text's are.
func TestParseOver(t *testing.T) {
	// 10^1234 + 1 is odd and has more than 4096 bits.
	wide := "1" + strings.Repeat("0", 1233) + "1"
	for _, s := range []string{
		"1p65537", "-1p65537", "2p65536", "4p65535", "1p-65537", "-1p-65537", "2p-65538", "3p65537", "6p65536",
		"1p999999", "1p-999999", "-9p999999", "18446744073709551616p65473",
		wide, "-" + wide, wide + "p1", wide + "p-1", wide + "p-65536",
		strings.Repeat("9", api.MaxDigits), "-" + strings.Repeat("9", api.MaxDigits) + "p-9",
	} {
		if got, err := Parse(s); err != api.ErrOver || !isZero(got) {
			t.Errorf("Parse(%.40q), %d bytes: %v, %d", s, len(s), got, err)
		}
		expectNoNumber(t, s+"x")
		expectNoNumber(t, s+"-")
		expectNoNumber(t, "0"+s)
	}
}

func TestExamples(t *testing.T) {
	quarter, _ := num.Scale(num.Int(1), -2)
	if x, err := num.Mul(num.Int(3), quarter); err != api.OK || Text(x) != "3p-2" {
		t.Errorf("Text of three quarters is %q", Text(x))
	}
	if x, err := Parse("12"); err != api.OK || Text(x) != "3p2" {
		t.Errorf("Parse of 12 has the Text %q, %d", Text(x), err)
	}
}
