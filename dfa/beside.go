package dfa

// What stands beside a place, as far as borders ask.
const (
	nothing = iota
	newline
	inWord
	another
)

// end stands for the byte that isn't there, behind a text or ahead of it.
const end = 256

func byteAt(text string, place int) int {
	if place < 0 || place >= len(text) {
		return end
	}
	return int(text[place])
}

func kindOf(b int) int {
	switch {
	case b == end:
		return nothing
	case b == '\n':
		return newline
	case '0' <= b && b <= '9', 'A' <= b && b <= 'Z', 'a' <= b && b <= 'z', b == '_':
		return inWord
	}
	return another
}

// sample: a text of what a kind tells.
func sample(kind int) string {
	switch kind {
	case newline:
		return "\n"
	case inWord:
		return "a"
	case another:
		return " "
	}
	return ""
}
