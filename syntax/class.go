package syntax

import (
	"strconv"

	"ferret/api"
	"ferret/sets"
	"ferret/ucd"
)

// items takes what stands behind the [ at from, and the ] that closes it.
func (p *parser) items(from int) sets.Set {
	others := p.took("^")
	// The first one is taken whatever it is: there a ] is itself.
	l := []api.Range(p.item(from))
	for !p.took("]") {
		l = append(l, p.item(from)...)
	}
	s := sets.Of(l...)
	return pick(others, s.Not(), s)
}

// item takes a scalar, an escape or a range, in the brackets that begin at open.
func (p *parser) item(open int) sets.Set {
	from := p.at
	first, one := p.member(open)
	if !one || p.look(0) != '-' || p.look(1) == ']' {
		return first
	}
	p.take()
	second, one := p.member(open)
	if !one || second[0].From < first[0].From {
		panic(p.wrong(api.ErrRange, from))
	}
	return between(first[0].From, second[0].From)
}

// member takes a scalar or an escape; true, where it is of one number.
func (p *parser) member(open int) (sets.Set, bool) {
	from := p.at
	switch r := p.take(); r {
	case end:
		panic(p.wrong(api.ErrClass, open))
	case '\\':
		return p.escape(from)
	default:
		return only(r), true
	}
}

// escaped takes what stands behind the \ at from, outside of [ and ]: there borders may be.
func (p *parser) escaped(from int) Node {
	switch {
	case p.took("A"):
		return Node{Kind: BeginText}
	case p.took("z"):
		return Node{Kind: EndText}
	case p.took("b"):
		return Node{Kind: Word}
	case p.took("B"):
		return Node{Kind: NotWord}
	}
	s, _ := p.escape(from)
	return p.class(s)
}

// escape takes what stands behind the \ at from, but no border; true, where it is of one number.
func (p *parser) escape(from int) (sets.Set, bool) {
	switch r := p.take(); r {
	case 'd', 'D', 's', 'S', 'w', 'W':
		s, _ := ucd.Perl(byte(r))
		return s, false
	case 'p', 'P':
		return p.named(from, r == 'P'), false
	case 'x':
		return only(p.code(from)), true
	case 'n':
		return only('\n'), true
	case 't':
		return only('\t'), true
	case 'r':
		return only('\r'), true
	case 'f':
		return only('\f'), true
	case 'v':
		return only('\v'), true
	default:
		if r < 0x21 || r > 0x7E || lettersAndDigits().Has(r) {
			panic(p.wrong(api.ErrToken, from))
		}
		return only(r), true
	}
}

// named takes the name of a class in brackets.
func (p *parser) named(from int, others bool) sets.Set {
	if p.took("{") {
		name := p.run(lettersAndDigits().Has, len(p.Runes))
		if s, ok := ucd.Class(name); ok && p.took("}") {
			return pick(others, s.Not(), s)
		}
	}
	panic(p.wrong(api.ErrClass, from))
}

// code takes the digits that stand behind \x.
func (p *parser) code(from int) int {
	var word string
	var whole bool
	if p.took("{") {
		word = p.run(hexDigits().Has, 6)
		whole = p.took("}")
	} else {
		word = p.run(hexDigits().Has, 2)
		whole = len(word) == 2
	}
	n, err := strconv.ParseInt(word, 16, 32)
	if !whole || err != nil || n > api.MaxRune {
		panic(p.wrong(api.ErrToken, from))
	}
	return int(n)
}
