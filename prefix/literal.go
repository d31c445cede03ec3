package prefix

import (
	"strings"

	"ferret/api"
	"ferret/coding"
	"ferret/sets"
	"ferret/syntax"
)

// onlyScalar: the bytes of a set's only number.
func onlyScalar(s sets.Set) (string, bool) {
	if s.Size() != 1 {
		return "", false
	}
	text, err := coding.Encode([]int{s[0].From}, coding.UTF8, false)
	return text, err == api.OK
}

// inRow: what pieces tell one behind the other, up to the first that isn't told wholly.
func inRow(pieces []syntax.Node) (string, bool) {
	var b strings.Builder
	for _, n := range pieces {
		text, whole := Literal(n)
		b.WriteString(text)
		if !whole {
			return b.String(), false
		}
	}
	return b.String(), true
}
