package prog

import "ferret/syntax"

// Holds: does a border hold at a place of a text?
func Holds(kind int, text string, at int) bool {
	if at < 0 || at > len(text) {
		return false
	}
	switch kind {
	case syntax.BeginText:
		return at == 0
	case syntax.EndText:
		return at == len(text)
	case syntax.BeginLine:
		return at == 0 || text[at-1] == '\n'
	case syntax.EndLine:
		return at == len(text) || text[at] == '\n'
	case syntax.Word:
		return wordEnds(text, at)
	case syntax.NotWord:
		return !wordEnds(text, at)
	}
	return false
}

// wordEnds: does one end or begin at a place that there is?
func wordEnds(text string, at int) bool {
	ahead := at > 0 && inWord(text[at-1])
	there := at < len(text) && inWord(text[at])
	return ahead != there
}

func inWord(b byte) bool {
	return '0' <= b && b <= '9' || 'A' <= b && b <= 'Z' || 'a' <= b && b <= 'z' || b == '_'
}
