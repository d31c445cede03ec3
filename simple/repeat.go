package simple

import "ferret/syntax"

// endless is the Max of a Repeat without an end.
const endless = -1

// times: how often a Repeat's Kid stands there: so often for sure, and then again and again, or perhaps so often more.
type times struct {
	sure    int
	endless bool
	perhaps int
}

// timesOf a Repeat. Bounds that no pattern has are cut, so that Count never goes below what is written out.
func timesOf(n syntax.Node) times {
	t := times{sure: max(n.Min, 0), endless: n.Max == endless}
	if n.Max > t.sure {
		t.perhaps = n.Max - t.sure
	}
	return t
}

// never: does the Kid not stand there at all?
func (t times) never() bool {
	return t == times{}
}

// writtenOut: a Repeat by some of 0 and -1 and of 0 and 1 alone.
func writtenOut(n syntax.Node) syntax.Node {
	t := timesOf(n)
	if t.never() {
		// Its Kid isn't looked at: Count doesn't say that it isn't too big.
		return syntax.Node{Kind: syntax.Empty}
	}
	x := simplified(firstKid(n))
	loop := func(most int, behind ...syntax.Node) syntax.Node {
		kid := row(append([]syntax.Node{copied(x)}, behind...)...)
		return syntax.Node{Kind: syntax.Repeat, Max: most, Lazy: n.Lazy, Kids: []syntax.Node{kid}}
	}
	var pieces []syntax.Node
	for range t.sure {
		pieces = append(pieces, copied(x))
	}
	if t.endless {
		pieces = append(pieces, loop(endless))
	}
	if t.perhaps > 0 {
		z := loop(1)
		for range t.perhaps - 1 {
			z = loop(1, z)
		}
		pieces = append(pieces, z)
	}
	return row(pieces...)
}
