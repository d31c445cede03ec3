package args

import (
	"strconv"
	"strings"
)

// mostDigits of a number: with more of them it might not fit into an int.
const mostDigits = 18

// The two of a choice.
const (
	yes = "yes"
	no  = "no"
)

// value is where what a text tells is kept.
type value interface {
	read(s string) bool // false, where it isn't as it should be
	told() string       // empty, where it is zero
}

type numberAt struct{ kept *int }

func (n numberAt) read(s string) bool {
	told, ok := readNumber(s)
	*n.kept = told
	return ok
}

func (n numberAt) told() string {
	if *n.kept == 0 {
		return ""
	}
	return strconv.Itoa(*n.kept)
}

type choiceAt struct{ kept *bool }

func (c choiceAt) read(s string) bool {
	*c.kept = s == yes
	return s == yes || s == no
}

func (c choiceAt) told() string {
	if !*c.kept {
		return ""
	}
	return yes
}

type textAt struct{ kept *string }

func (t textAt) read(s string) bool {
	*t.kept = s
	return true
}

func (t textAt) told() string { return *t.kept }

// readNumber: of a number there is but one text, the one in which it is written again; so signs and noughts that don't belong are found.
func readNumber(s string) (int, bool) {
	if len(strings.TrimPrefix(s, "-")) > mostDigits {
		return 0, false
	}
	number, err := strconv.Atoi(s)
	if err != nil || strconv.Itoa(number) != s {
		return 0, false
	}
	return number, true
}
