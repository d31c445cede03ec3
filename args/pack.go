package args

import (
	"strconv"
	"strings"
)

// longest is how many bytes a packed text may have: a length has at most seven digits.
const longest = 9999999

// What stands behind a packed text's length, and behind its bytes.
const (
	colon = ":"
	comma = ","
)

func put(out *strings.Builder, text string) {
	out.WriteString(strconv.Itoa(len(text)))
	out.WriteString(colon)
	out.WriteString(text)
	out.WriteString(comma)
}

// take: the packed text with which s begins, unpacked, and what is behind it.
func take(s string) (text, behind string, ok bool) {
	digits, rest, _ := strings.Cut(s, colon)
	length, ok := readNumber(digits)
	if !ok || length < 0 || length > min(longest, len(rest)) {
		return "", "", false
	}
	behind, ok = strings.CutPrefix(rest[length:], comma)
	if !ok {
		return "", "", false
	}
	return rest[:length], behind, true
}
