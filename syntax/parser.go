package syntax

import (
	"strconv"

	"ferret/api"
	"ferret/sets"
)

// maxDigits of a quantifier's numbers; with more of them a { begins none.
const maxDigits = 4

// endless is the Max of a Repeat without an end.
const endless = -1

// parser makes a tree of a text. What is wrong is thrown, as an api.Fault.
type parser struct {
	source
	Flags          // those that are set where it reads
	names []string // of the groups so far, that of all included
	open  int      // how many brackets around
}

// pattern takes the whole text.
func (p *parser) pattern() (pattern Pattern, fault api.Fault) {
	defer func() {
		thrown := recover()
		if thrown == nil {
			return
		}
		wrong, ok := thrown.(api.Fault)
		if !ok {
			panic(thrown) // a mistake of the program's own, not of the text's
		}
		pattern, fault = Pattern{}, wrong
	}()
	root := p.alternatives()
	if p.look(0) != end {
		// Rows end at |, at ) and at the end alone, and alternatives go on behind |.
		panic(p.wrong(api.ErrGroup, p.at))
	}
	return Pattern{Root: root, Names: p.names}, api.Fault{}
}

func (p *parser) alternatives() Node {
	rows := []Node{p.row()}
	for p.took("|") {
		rows = append(rows, p.row())
	}
	return together(Alt, rows)
}

func (p *parser) row() Node {
	var pieces []Node
	for !p.rowEnds() {
		from := p.at
		// One that belongs to a piece is taken with it.
		if _, stray := p.quantifier(); stray {
			panic(p.wrong(api.ErrRepeat, from))
		}
		if atom, ok := p.atom(); ok {
			pieces = append(pieces, p.repeated(atom))
		}
	}
	return together(Cat, pieces)
}

func (p *parser) rowEnds() bool {
	r := p.look(0)
	return r == end || r == '|' || r == ')'
}

// together: one node for some: of one itself, of none Empty.
func together(kind int, l []Node) Node {
	switch len(l) {
	case 0:
		return Node{Kind: Empty}
	case 1:
		return l[0]
	}
	return Node{Kind: kind, Kids: l}
}

// repeated: an atom with the quantifier that stands behind it, if there is one.
func (p *parser) repeated(atom Node) Node {
	repeat, ok := p.quantifier()
	if !ok {
		return atom
	}
	repeat.Kids = []Node{atom}
	return repeat
}

// quantifier takes one, if it stands here: a Repeat without its Kid.
func (p *parser) quantifier() (Node, bool) {
	from := p.at
	least, most, ok := p.bounds()
	if !ok {
		p.at = from
		return Node{}, false
	}
	if most != endless && least > most || least > api.MaxRepeat || most > api.MaxRepeat {
		panic(p.wrong(api.ErrRepeat, from))
	}
	turned := p.took("?")
	return Node{Kind: Repeat, Min: least, Max: most, Lazy: turned != p.Lazy}, true
}

// bounds takes a quantifier's signs but the last ?; beside a false it has read any further.
func (p *parser) bounds() (least, most int, ok bool) {
	switch p.take() {
	case '*':
		return 0, endless, true
	case '+':
		return 1, endless, true
	case '?':
		return 0, 1, true
	case '{':
		return p.numbers()
	}
	return 0, 0, false
}

// numbers takes what stands behind a quantifier's {.
func (p *parser) numbers() (least, most int, ok bool) {
	least, ok = p.number()
	if !ok {
		return 0, 0, false
	}
	if p.took("}") {
		return least, least, true
	}
	if p.took(",}") {
		return least, endless, true
	}
	if !p.took(",") {
		return 0, 0, false
	}
	most, ok = p.number()
	return least, most, ok && p.took("}")
}

func (p *parser) number() (int, bool) {
	n, err := strconv.Atoi(p.run(digits().Has, maxDigits))
	return n, err == nil
}

// atom takes one; flags for what follows are none.
func (p *parser) atom() (Node, bool) {
	from := p.at
	switch r := p.take(); r {
	case '(':
		return p.brackets(from)
	case '[':
		return p.class(p.items(from)), true
	case '\\':
		return p.escaped(from), true
	case '.':
		all := between(0, api.MaxRune)
		return p.class(pick(p.Dot, all, all.Less(only('\n')))), true
	case '^':
		return Node{Kind: pick(p.Lines, BeginLine, BeginText)}, true
	case '$':
		return Node{Kind: pick(p.Lines, EndLine, EndText)}, true
	default:
		return p.class(only(r)), true
	}
}

func (p *parser) class(s sets.Set) Node {
	return Node{Kind: Class, Set: s, Fold: p.Fold}
}

func pick[T any](first bool, one, other T) T {
	if first {
		return one
	}
	return other
}
