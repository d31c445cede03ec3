package templ

import (
	"slices"
	"strconv"
	"strings"
)

// mostDigits of a group's number.
const mostDigits = 4

// first: the piece with which a text that isn't empty begins, and how many bytes it has; 0: what begins there is none.
func first(text string, names []string) (Piece, int) {
	switch place := strings.IndexByte(text, '$'); {
	case place < 0:
		return Piece{Text: text, Group: none}, len(text)
	case place > 0:
		return Piece{Text: text[:place], Group: none}, place
	case strings.HasPrefix(text, "$$"):
		return Piece{Text: "$", Group: none}, len("$$")
	}
	group, size := sign(text, names)
	if group < 0 || group >= len(names) {
		return Piece{}, 0
	}
	return Piece{Group: group}, size
}

// sign: the group that the $ at the beginning of a text tells, and how many bytes tell it; a group below 0: none.
func sign(text string, names []string) (int, int) {
	if rest, ok := strings.CutPrefix(text, "${"); ok {
		name, _, closed := strings.Cut(rest, "}")
		if !closed {
			return none, 0
		}
		return called(name, names), len("${") + len(name) + len("}")
	}
	count := digits(text[len("$"):])
	return number(text[len("$") : len("$")+count]), len("$") + count
}

// called: the group of a number or a name. What may be a number is one, as a name may be of digits alone.
func called(name string, names []string) int {
	if name == "" {
		return none // groups without a name aren't called so
	}
	if digits(name) == len(name) {
		return number(name)
	}
	return slices.Index(names, name)
}

// digits: with how many digits a text begins, as far as a number goes.
func digits(text string) int {
	count := 0
	for count < min(len(text), mostDigits) && '0' <= text[count] && text[count] <= '9' {
		count++
	}
	return count
}

// number: what digits tell; without any, none.
func number(digits string) int {
	if n, err := strconv.Atoi(digits); err == nil {
		return n
	}
	return none
}
