package problem

import (
	"iter"
	"strconv"
	"strings"

	"fathomline/api"
	"fathomline/digits"
	"fathomline/parse"
)

// Show returns p as a text that Parse accepts, and the empty string if p is not
// valid.
func Show(p api.Problem) string {
	if !Right(p) {
		return ""
	}
	var text strings.Builder
	for line := range headLines(p) {
		text.WriteString(line + "\n")
	}
	text.WriteString(parse.Show(p.Field))
	return text.String()
}

// headLines yields the lines ahead of the field, without their line feeds.
func headLines(p api.Problem) iter.Seq[string] {
	return func(yield func(line string) bool) {
		more := yield("prec "+strconv.Itoa(p.Prec)) &&
			yield("order "+strconv.Itoa(p.Order)) &&
			yield("budget "+strconv.Itoa(p.Budget)) &&
			yield("until "+digits.Text(p.Until)) &&
			yield("most "+digits.Text(p.Most)) &&
			yield("least "+digits.Text(p.Least))
		for i := 0; more && i < len(p.Box); i++ {
			more = yield("box " + digits.Text(p.Box[i].Lo) + " " + digits.Text(p.Box[i].Hi))
		}
	}
}
