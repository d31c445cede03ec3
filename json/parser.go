package json

import (
	"strings"
	"unicode/utf8"

	"ferret/api"
	"ferret/coding"
)

// end is told in the place of a byte, where there is none any more.
const end = -1

// parser takes a text from left to right. What is wrong it throws, as an api.Fault.
type parser struct {
	text  string
	at    int
	depth int
}

// whole takes the text's value, with nothing behind it.
func (p *parser) whole() (value Value, fault api.Fault) {
	defer func() {
		thrown := recover()
		if thrown == nil {
			return
		}
		wrong, ok := thrown.(api.Fault)
		if !ok {
			panic(thrown) // a mistake of the program's own, not of the text's
		}
		value, fault = Value{}, wrong
	}()
	value = p.value()
	if p.look() != end {
		p.wrong(api.ErrToken)
	}
	return value, api.Fault{}
}

func (p *parser) wrong(code api.Errno) {
	panic(api.Fault{Code: code, At: p.at})
}

// look: the next byte.
func (p *parser) look() int {
	if p.at < len(p.text) {
		return int(p.text[p.at])
	}
	return end
}

// take passes over a byte, if it is the next one.
func (p *parser) take(want byte) bool {
	if p.look() != int(want) {
		return false
	}
	p.at++
	return true
}

// need passes over bytes, which must be the next ones.
func (p *parser) need(want string) {
	for i := range len(want) {
		if !p.take(want[i]) {
			p.wrong(api.ErrToken)
		}
	}
}

func (p *parser) blanks() {
	for p.take(' ') || p.take('\t') || p.take('\n') || p.take('\r') {
	}
}

// value takes a value, with the blanks around it.
func (p *parser) value() Value {
	p.blanks()
	value := p.bare()
	p.blanks()
	return value
}

func (p *parser) bare() Value {
	switch p.look() {
	case 'n':
		p.need("null")
		return Value{Kind: Null}
	case 'f':
		p.need("false")
		return Value{Kind: False}
	case 't':
		p.need("true")
		return Value{Kind: True}
	case '"':
		return Value{Kind: Text, Text: p.quoted()}
	case '[':
		return p.list()
	case '{':
		return p.object()
	}
	return Value{Kind: Number, Text: p.number()}
}

func (p *parser) list() Value {
	list := Value{Kind: List}
	p.row("[]", func() {
		list.Kids = append(list.Kids, p.value())
	})
	return list
}

func (p *parser) object() Value {
	object := Value{Kind: Object}
	p.row("{}", func() {
		p.blanks()
		object.Keys = append(object.Keys, p.quoted())
		p.blanks()
		p.need(":")
		object.Kids = append(object.Kids, p.value())
	})
	return object
}

// row takes brackets, and what stands in them: items with commas between, or none.
func (p *parser) row(brackets string, item func()) {
	opening, closing := brackets[:1], brackets[1:]
	if p.depth == api.MaxNest {
		p.wrong(api.ErrNest)
	}
	p.depth++
	p.need(opening)
	p.blanks()
	if !p.take(closing[0]) {
		item()
		for p.take(',') {
			item()
		}
		p.need(closing)
	}
	p.depth--
}

// number takes a number's text. Whatever begins no other value comes to it, too.
func (p *parser) number() string {
	from := p.at
	p.take('-')
	if !p.take('0') {
		p.digits()
	}
	if p.take('.') {
		p.digits()
	}
	if p.take('e') || p.take('E') {
		if !p.take('+') {
			p.take('-')
		}
		p.digits()
	}
	return p.text[from:p.at]
}

// digits passes over one digit or more.
func (p *parser) digits() {
	from := p.at
	for '0' <= p.look() && p.look() <= '9' {
		p.at++
	}
	if p.at == from {
		p.wrong(api.ErrToken)
	}
}

// quoted takes a text in quotes, and tells what it says.
func (p *parser) quoted() string {
	p.need(`"`)
	var out []byte
	for !p.take('"') {
		next := p.look()
		switch {
		case next < firstSelf: // the end, too
			p.wrong(api.ErrToken)
		case next == '\\':
			out = p.escaped(out)
		default:
			out = append(out, byte(next))
			p.at++
		}
	}
	return string(out)
}

// escaped takes what begins with \, and puts what it tells behind bytes.
func (p *parser) escaped(out []byte) []byte {
	if strings.HasPrefix(p.text[p.at:], `\u`) {
		return p.units(out)
	}
	p.need(`\`)
	place := -1
	if next := p.look(); next != end {
		place = strings.IndexByte(letters, byte(next))
	}
	if place < 0 {
		p.wrong(api.ErrToken)
	}
	p.at++
	return append(out, signs[place])
}

// units takes all numbers of 16 bits that stand in a row, and puts the scalars that they are in UTF-16 behind bytes.
func (p *parser) units(out []byte) []byte {
	row := []byte("\x00" + ahead)
	for strings.HasPrefix(p.text[p.at:], `\u`) {
		p.need(`\u`)
		unit := p.unit()
		row = append(row, byte(unit>>8), byte(unit))
	}
	text, _ := coding.Decode(string(row), coding.Big, false)
	for _, scalar := range text.Runes[len(ahead):] {
		out = utf8.AppendRune(out, rune(scalar))
	}
	return out
}

// unit takes four digits.
func (p *parser) unit() int {
	unit := 0
	for range 4 {
		digit := hexDigit(p.look())
		if digit < 0 {
			p.wrong(api.ErrToken)
		}
		unit = unit<<4 | digit
		p.at++
	}
	return unit
}

// hexDigit: below 0, where it is none.
func hexDigit(c int) int {
	switch {
	case '0' <= c && c <= '9':
		return c - '0'
	case 'a' <= c && c <= 'f':
		return c - 'a' + 10
	case 'A' <= c && c <= 'F':
		return c - 'A' + 10
	}
	return -1
}
