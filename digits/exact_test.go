package digits

import (
	"math/big"
	"regexp"
	"strconv"
	"strings"
	"testing"

	"fathomline/api"
	"fathomline/num"
)

// P4.1 to P4.3: the results are those of another implementation, which splits
// texts by a regular expression and converts digits by math/big.

// source yields the same words in every run.
type source uint64

func (s *source) next() uint64 {
	*s += 0x9e3779b97f4a7c15
	x := uint64(*s)
	x = (x ^ x>>30) * 0xbf58476d1ce4e5b9
	x = (x ^ x>>27) * 0x94d049bb133111eb
	return x ^ x>>31
}

func (s *source) below(n int) int { return int(s.next() % uint64(n)) }

func (s *source) word() uint64 {
	switch s.below(6) {
	case 0:
		return 0
	case 1:
		return all
	case 2:
		return 1 << s.below(64)
	}
	return s.next()
}

func (s *source) exponent() int64 {
	switch s.below(6) {
	case 0:
		return 0
	case 1:
		return int64(s.below(5)) - maxExp
	case 2:
		return maxExp - int64(s.below(5))
	case 3:
		return int64(s.below(2*maxExp+1)) - maxExp
	}
	return int64(s.below(300)) - 150
}

// number is valid and not 0.
func (s *source) number(size int) api.Num {
	w := make([]uint64, size)
	for i := range w {
		w[i] = s.word()
	}
	w[0] |= 1
	w[size-1] |= 1 << s.below(64)
	return api.Num{Neg: s.below(2) == 0, Exp: s.exponent(), W: w}
}

// digits has n digits, the first one not 0, among them runs of 0 and 9.
func (s *source) digits(n int) string {
	text := []byte{'1' + byte(s.below(9))}
	for len(text) < n {
		run := 1 + s.below(n-len(text))
		switch s.below(4) {
		case 0:
			text = append(text, strings.Repeat("0", run)...)
		case 1:
			text = append(text, strings.Repeat("9", run)...)
		}
		text = append(text, '0'+byte(s.below(10)))
	}
	return string(text[:n])
}

// bigOf goes through bytes, so that it hangs on no word size of math/big.
func bigOf(w []uint64) *big.Int {
	text := make([]byte, 8*len(w))
	for i, word := range w {
		for k := range 8 {
			text[len(text)-1-8*i-k] = byte(word >> (8 * k))
		}
	}
	return new(big.Int).SetBytes(text)
}

// textOf is the text of a valid number.
func textOf(x api.Num) string {
	m := bigOf(x.W)
	if x.Neg {
		m.Neg(m)
	}
	if x.Exp == 0 {
		return m.String()
	}
	return m.String() + "p" + strconv.FormatInt(x.Exp, 10)
}

// numberOf is the valid number m times 2^exp.
func numberOf(m *big.Int, exp int64) (api.Num, api.Errno) {
	if m.Sign() == 0 {
		return api.Num{}, api.OK
	}
	zeros := m.TrailingZeroBits()
	size := new(big.Int).Abs(m)
	size.Rsh(size, zeros)
	exp += int64(zeros)
	if size.BitLen() > maxBits || exp < -maxExp || exp > maxExp {
		return api.Num{}, api.ErrOver
	}
	w := make([]uint64, (size.BitLen()+63)/64)
	for i, b := range size.FillBytes(make([]byte, 8*len(w))) {
		w[len(w)-1-i/8] |= uint64(b) << (56 - 8*(i%8))
	}
	return api.Num{Neg: m.Sign() < 0, Exp: exp, W: w}, api.OK
}

var numberText = regexp.MustCompile(`\A(?:0|(-?([1-9][0-9]*))(?:p(-?[1-9][0-9]{0,5}))?)\z`)

// parsed is what Parse has to return.
func parsed(s string) (api.Num, api.Errno) {
	parts := numberText.FindStringSubmatch(s)
	if parts == nil || len(parts[2]) > api.MaxDigits {
		return api.Num{}, api.ErrText
	}
	if s == "0" {
		return api.Num{}, api.OK
	}
	m, _ := new(big.Int).SetString(parts[1], 10)
	exp := int64(0)
	if parts[3] != "" {
		exp, _ = strconv.ParseInt(parts[3], 10, 64)
	}
	return numberOf(m, exp)
}

func checkParse(t *testing.T, s string) api.Errno {
	t.Helper()
	want, wantErr := parsed(s)
	got, err := Parse(s)
	if err != wantErr || !equal(got, want) {
		t.Fatalf("Parse(%q) = %v, %d, not %v, %d", s, got, err, want, wantErr)
	}
	return err
}

// P4.1

func TestExactText(t *testing.T) {
	s := source(1)
	for size := 1; size <= api.MaxWords; size++ {
		for range 60 {
			x := s.number(size)
			if got := Text(x); got != textOf(x) {
				t.Fatalf("Text(%v) = %q, not %q", x, got, textOf(x))
			}
		}
	}
}

// nearPowers are the odd numbers next to the powers of ten, at which the count
// of digits turns.
func nearPowers() []api.Num {
	var numbers []api.Num
	power := big.NewInt(1)
	for {
		power = new(big.Int).Mul(power, big.NewInt(10))
		for _, off := range []int64{-1, 1} {
			x, err := numberOf(new(big.Int).Add(power, big.NewInt(off)), 0)
			if err != api.OK {
				return numbers
			}
			numbers = append(numbers, x)
		}
	}
}

func TestExactTextNearPowers(t *testing.T) {
	numbers := nearPowers()
	if len(numbers) != 2*1233 {
		t.Errorf("%d numbers", len(numbers))
	}
	for _, x := range numbers {
		if got := Text(x); got != textOf(x) {
			t.Fatalf("Text(%v) = %q, not %q", x, got, textOf(x))
		}
	}
}

// P4.2

// TestExactParseShort parses all texts of few of the bytes that matter.
func TestExactParseShort(t *testing.T) {
	const bytes = "-p0126+"
	seen := map[api.Errno]int{}
	texts := []string{""}
	for range 7 {
		var longer []string
		for _, text := range texts {
			seen[checkParse(t, text)]++
			for i := range len(bytes) {
				longer = append(longer, text+bytes[i:i+1])
			}
		}
		texts = longer
	}
	if seen[api.OK] < 1000 || seen[api.ErrText] < 1000 {
		t.Errorf("texts by errors: %v", seen)
	}
}

// TestExactParseBounds meets every exponent near the bounds.
func TestExactParseBounds(t *testing.T) {
	seen := map[api.Errno]int{}
	for _, m := range []string{"1", "-1", "2", "3", "12", "-1024", "36893488147419103232", "18446744073709551615"} {
		for _, middle := range []int{-maxExp, maxExp} {
			for off := -70; off <= 70; off++ {
				seen[checkParse(t, m+"p"+strconv.Itoa(middle+off))]++
			}
		}
	}
	if seen[api.OK] < 100 || seen[api.ErrOver] < 100 || len(seen) != 2 {
		t.Errorf("texts by errors: %v", seen)
	}
}

func TestExactParseLong(t *testing.T) {
	s := source(2)
	seen := map[api.Errno]int{}
	for n := 1; n <= api.MaxDigits+2; n++ {
		for range 4 {
			text := s.digits(n)
			if s.below(2) == 0 {
				text = "-" + text
			}
			if exp := s.exponent(); exp != 0 {
				text += "p" + strconv.FormatInt(exp, 10)
			}
			seen[checkParse(t, text)]++
		}
	}
	if seen[api.OK] < 1000 || seen[api.ErrOver] < 100 || seen[api.ErrText] != 8 {
		t.Errorf("texts by errors: %v", seen)
	}
}

// TestExactParseMostBits is about 2^4096: odd numbers of more bits are over,
// even ones only if too many bits are left without their zeros.
func TestExactParseMostBits(t *testing.T) {
	limit := new(big.Int).Lsh(big.NewInt(1), maxBits)
	for off := int64(-9); off <= 9; off++ {
		m := new(big.Int).Add(limit, big.NewInt(off))
		want := api.OK
		if off > 0 && off%2 != 0 {
			want = api.ErrOver
		}
		for shift := range uint(200) {
			text := new(big.Int).Lsh(m, shift).String()
			if err := checkParse(t, text); off%2 != 0 && err != want {
				t.Fatalf("2^4096 + %d, shifted by %d: %d", off, shift, err)
			}
			checkParse(t, "-"+text+"p-5")
		}
	}
}

// TestExactParseChanged changes one byte of texts of numbers.
func TestExactParseChanged(t *testing.T) {
	const bytes = "0123456789-p+ .xP_"
	s := source(3)
	seen := map[api.Errno]int{}
	for range 20000 {
		text := Text(s.number(1 + s.below(3)))
		i, c := s.below(len(text)), bytes[s.below(len(bytes)):][:1]
		switch s.below(3) {
		case 0:
			text = text[:i] + text[i+1:]
		case 1:
			text = text[:i] + c + text[i:]
		case 2:
			text = text[:i] + c + text[i+1:]
		}
		seen[checkParse(t, text)]++
	}
	if seen[api.OK] < 1000 || seen[api.ErrOver] < 100 || seen[api.ErrText] < 1000 {
		t.Errorf("texts by errors: %v", seen)
	}
}

// P4.3

func checkInverse(t *testing.T, x api.Num) {
	t.Helper()
	if got, err := Parse(Text(x)); err != api.OK || !num.Same(got, x) {
		t.Fatalf("Parse of Text of %v: %v, %d", x, got, err)
	}
}

func TestParseInvertsText(t *testing.T) {
	s := source(4)
	checkInverse(t, api.Num{})
	for _, p := range pairs() {
		checkInverse(t, p.x)
	}
	for _, x := range nearPowers() {
		checkInverse(t, x)
	}
	for size := 1; size <= api.MaxWords; size++ {
		for range 60 {
			checkInverse(t, s.number(size))
		}
	}
	for bits := 1; bits <= maxBits; bits++ {
		checkInverse(t, full(bits, int64(bits)-maxBits/2))
		checkInverse(t, minus(full(bits, 0)))
	}
}

func TestParseInvertsTextForAllExponents(t *testing.T) {
	for exp := int64(-maxExp); exp <= maxExp; exp++ {
		checkInverse(t, of(1, exp))
		checkInverse(t, of(-19, exp))
	}
}

// TestTextOfInvalidIsNoNumber: nothing that is not valid comes back as a number.
func TestTextOfInvalidIsNoNumber(t *testing.T) {
	for rule, x := range invalid() {
		if got, err := Parse(Text(x)); err != api.ErrText || !isZero(got) {
			t.Errorf("%s: %v, %d", rule, got, err)
		}
	}
}
