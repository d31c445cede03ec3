package json

import (
	"strings"
	"unicode/utf8"

	"ferret/coding"
)

// What stands behind \ for a byte that can't stand in a text by itself, and that byte; / may stand by itself, too.
const (
	letters = `"\bfnrt/`
	signs   = "\"\\\b\f\n\r\t/"
)

const (
	hexDigits = "0123456789abcdef"
	firstSelf = 0x20 // the least scalar that needs no \ for being low
)

// quote puts a text in quotes behind bytes.
func quote(out []byte, s string) []byte {
	text, _ := coding.Decode(ahead+s, coding.UTF8, false)
	out = append(out, '"')
	for _, scalar := range text.Runes[len(ahead):] {
		out = quoteOne(out, scalar)
	}
	return append(out, '"')
}

func quoteOne(out []byte, scalar int) []byte {
	if place := strings.IndexRune(signs, rune(scalar)); place >= 0 && scalar != '/' {
		return append(out, '\\', letters[place])
	}
	if scalar < firstSelf {
		return append(out, '\\', 'u', '0', '0', hexDigits[scalar>>4], hexDigits[scalar&0xF])
	}
	return utf8.AppendRune(out, rune(scalar))
}

// show puts a value's text behind bytes.
func (v Value) show(out []byte) []byte {
	switch v.Kind {
	case False:
		return append(out, "false"...)
	case True:
		return append(out, "true"...)
	case Number:
		return append(out, v.Text...)
	case Text:
		return quote(out, v.Text)
	case List:
		return v.showKids(out, "[]")
	case Object:
		return v.showKids(out, "{}")
	}
	return append(out, "null"...)
}

func (v Value) showKids(out []byte, brackets string) []byte {
	out = append(out, brackets[0])
	for i, kid := range v.Kids {
		if i > 0 {
			out = append(out, ',')
		}
		if v.Kind == Object {
			out = append(quote(out, v.key(i)), ':')
		}
		out = kid.show(out)
	}
	return append(out, brackets[1])
}

// key: the empty text, where there are fewer of them than kids.
func (v Value) key(i int) string {
	if i < len(v.Keys) {
		return v.Keys[i]
	}
	return ""
}
