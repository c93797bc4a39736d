package parse

import (
	"strconv"
	"strings"

	"fathomline/api"
	"fathomline/digits"
	"fathomline/field"
	"fathomline/num"
)

// Show returns f as a text that Parse accepts, and the empty string if f is no
// field.
func Show(f [][]api.Mono) string {
	if !field.Right(f) {
		return ""
	}
	var text strings.Builder
	for i, p := range f {
		text.WriteString(lineStart(i+1) + polyText(p) + "\n")
	}
	return text.String()
}

func polyText(p []api.Mono) string {
	if len(p) == 0 {
		return "0"
	}
	var text strings.Builder
	for i, m := range p {
		text.WriteString(sign(i == 0, num.Sign(m.C) < 0) + monoText(m))
	}
	return text.String()
}

// sign returns what stands ahead of a term.
func sign(first, negative bool) string {
	switch {
	case first && negative:
		return "-"
	case first:
		return ""
	case negative:
		return " - "
	}
	return " + "
}

// monoText returns m without its sign.
func monoText(m api.Mono) string {
	var parts []string
	c := num.Abs(m.C)
	if !num.Same(c, num.Int(1)) || !hasVariables(m) {
		parts = append(parts, digits.Text(c))
	}
	for i, k := range m.E {
		if k == 0 {
			continue
		}
		part := "x" + strconv.Itoa(i+1)
		if k > 1 {
			part += "^" + strconv.Itoa(k)
		}
		parts = append(parts, part)
	}
	return strings.Join(parts, "*")
}

func hasVariables(m api.Mono) bool {
	for _, k := range m.E {
		if k > 0 {
			return true
		}
	}
	return false
}
