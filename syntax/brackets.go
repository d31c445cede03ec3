package syntax

import (
	"slices"

	"ferret/api"
)

// maxName: of a group.
const maxName = 32

// brackets takes what the ( at from begins; flags for what follows are no atom.
func (p *parser) brackets(from int) (Node, bool) {
	if p.open == api.MaxNest {
		panic(p.wrong(api.ErrNest, from))
	}
	switch {
	case p.took("?P"):
		return p.group(from, p.name(from)), true
	case p.took("?:"):
		return p.within(from, p.Flags), true
	case p.took("?"):
		return p.flagged(from)
	}
	return p.group(from, ""), true
}

// name takes a new group's, which stands behind (?P.
func (p *parser) name(from int) string {
	if p.took("<") {
		name := p.run(nameSigns().Has, maxName)
		if name != "" && p.took(">") && !slices.Contains(p.names, name) {
			return name
		}
	}
	panic(p.wrong(api.ErrGroup, from))
}

func (p *parser) group(from int, name string) Node {
	number := len(p.names)
	p.names = append(p.names, name)
	kid := p.within(from, p.Flags)
	return Node{Kind: Group, Cap: number, Name: name, Kids: []Node{kid}}
}

// within takes alternatives up to the ) that closes the ( at from; what flags are set within ends there.
func (p *parser) within(from int, flags Flags) Node {
	around := p.Flags
	p.Flags = flags
	p.open++
	n := p.alternatives()
	if !p.took(")") {
		panic(p.wrong(api.ErrGroup, from))
	}
	p.open--
	p.Flags = around
	return n
}

// flagged takes what stands behind (? with flags.
func (p *parser) flagged(from int) (Node, bool) {
	flags, ok := p.flags()
	if ok && p.took(":") {
		return p.within(from, flags), true
	}
	if ok && p.took(")") {
		p.Flags = flags
		return Node{}, false
	}
	panic(p.wrong(api.ErrToken, from))
}

// flags: those that are set behind what stands here; false, where no letter does.
func (p *parser) flags() (Flags, bool) {
	set := p.letters()
	var unset Flags
	if p.took("-") {
		unset = p.letters()
	}
	return Flags{
		Fold:  (p.Fold || set.Fold) && !unset.Fold,
		Lines: (p.Lines || set.Lines) && !unset.Lines,
		Dot:   (p.Dot || set.Dot) && !unset.Dot,
		Lazy:  (p.Lazy || set.Lazy) && !unset.Lazy,
	}, set != (Flags{}) || unset != (Flags{})
}

// letters takes flags' letters, up to one that was there.
func (p *parser) letters() Flags {
	var f Flags
	for {
		switch r := p.look(0); {
		case r == 'i' && !f.Fold:
			f.Fold = true
		case r == 'm' && !f.Lines:
			f.Lines = true
		case r == 's' && !f.Dot:
			f.Dot = true
		case r == 'U' && !f.Lazy:
			f.Lazy = true
		default:
			return f
		}
		p.at++
	}
}
