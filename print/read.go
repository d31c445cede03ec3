package print

import (
	"slices"

	"ferret/api"
	"ferret/json"
)

// mostDigits of a number: with more of them it might not fit into an int.
const mostDigits = 18

// isObject: has it just the keys that are told, so that it has a kid for each?
func isObject(v json.Value) bool {
	return v.Kind == json.Object && slices.Equal(v.Keys, []string{nameKey, lineKey, textKey, spansKey})
}

// readNumber: what digits tell. Noughts ahead needn't be looked for: layer 22 reads none.
func readNumber(v json.Value) (int, bool) {
	if v.Kind != json.Number || len(v.Text) > mostDigits {
		return 0, false
	}
	number := 0
	for i := range len(v.Text) {
		digit := v.Text[i]
		if digit < '0' || digit > '9' {
			return 0, false
		}
		number = 10*number + int(digit-'0')
	}
	return number, true
}

func readSpans(v json.Value) ([]api.Span, bool) {
	if v.Kind != json.List {
		return nil, false
	}
	var spans []api.Span
	for _, kid := range v.Kids {
		span, ok := readSpan(kid)
		if !ok {
			return nil, false
		}
		spans = append(spans, span)
	}
	return spans, true
}

func readSpan(v json.Value) (api.Span, bool) {
	if v.Kind != json.List || len(v.Kids) != 2 {
		return api.Span{}, false
	}
	from, fromOK := readNumber(v.Kids[0])
	to, toOK := readNumber(v.Kids[1])
	if !fromOK || !toOK {
		return api.Span{}, false
	}
	return api.Span{From: from, To: to}, true
}
