package ucd

import (
	"slices"

	"ferret/api"
	"ferret/sets"
)

// pairs are capital letters, and how far above each of them the small one stands that is one with it.
type pairs struct {
	from, to, above int
}

// third is a number that is one with a pair, told by the pair's capital letter.
type third struct {
	number, capital int
}

var allPairs = [...]pairs{
	{0x41, 0x5A, 0x20},
	{0xC0, 0xD6, 0x20},
	{0xD8, 0xDE, 0x20},
	{0x391, 0x3A1, 0x20},
	{0x3A3, 0x3A9, 0x20},
	{0x410, 0x42F, 0x20},
	{0x10400, 0x10427, 0x28},
}

var thirds = [...]third{
	{0x212A, 0x4B},
	{0x17F, 0x53},
	{0x212B, 0xC5},
	{0xB5, 0x39C},
	{0x3C2, 0x3A3},
}

// Orbit: the numbers that are one, if case doesn't count.
func Orbit(r int) []int {
	if r < 0 || r > api.MaxRune {
		return nil
	}
	capital := capitalOf(r)
	l := []int{capital}
	for _, p := range allPairs {
		if p.from <= capital && capital <= p.to {
			l = append(l, capital+p.above)
		}
	}
	for _, t := range thirds {
		if t.capital == capital {
			l = append(l, t.number)
		}
	}
	slices.Sort(l)
	return l
}

// capitalOf: the capital letter that a number is one with; the number itself, where there is none.
func capitalOf(r int) int {
	for _, t := range thirds {
		if t.number == r {
			return t.capital
		}
	}
	for _, p := range allPairs {
		if p.from+p.above <= r && r <= p.to+p.above {
			return r - p.above
		}
	}
	return r
}

// Close: a set, and all that is one with something in it.
func Close(s sets.Set) sets.Set {
	var more []api.Range
	for _, p := range allPairs {
		// Each orbit of more than one number has one capital letter.
		for capital := p.from; capital <= p.to; capital++ {
			orbit := Orbit(capital)
			if slices.ContainsFunc(orbit, s.Has) {
				for _, r := range orbit {
					more = append(more, api.Range{From: r, To: r})
				}
			}
		}
	}
	return s.Or(sets.Of(more...))
}
