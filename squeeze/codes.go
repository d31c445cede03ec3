package squeeze

import (
	"ferret/blocks"
	"ferret/huff"
	"ferret/inflate"
)

// Each length of kind 2's codes, from 0 to 15, is told by a symbol of its own; each of these has a code of lengthBits.
const (
	lengthSymbols = 16
	lengthBits    = 4
)

// book: the codes of symbols, and how many bits each has.
type book struct {
	codes, lengths []int
}

// codes of a block.
type codes struct {
	literals, distances book
}

// number is how a length or a distance is told.
type number struct {
	symbol, more, bits int
}

func bookOf(lengths []int) book {
	t, _ := huff.New(lengths) // no error: such lengths take all the room, or are one of one bit
	return book{codes: t.Codes(), lengths: lengths}
}

func fixedCodes() codes {
	return codes{literals: bookOf(blocks.FixedLiterals()), distances: bookOf(blocks.FixedDistances())}
}

// codesFor: codes for just the symbols that tell tokens.
func codesFor(tokens []Token) codes {
	literals := make([]bool, blocks.Literals)
	distances := make([]bool, blocks.Distances)
	literals[blocks.End] = true
	for _, t := range tokens {
		if t.Length == 0 {
			literals[t.Byte] = true
			continue
		}
		literals[lengthOf(t).symbol] = true
		distances[distanceOf(t).symbol] = true
	}
	if howMany(distances) < 2 {
		distances[0], distances[1] = true, true
	}
	return codes{literals: bookOf(huff.Even(literals)), distances: bookOf(huff.Even(distances))}
}

func howMany(used []bool) int {
	n := 0
	for _, u := range used {
		if u {
			n++
		}
	}
	return n
}

func lengthOf(t Token) number {
	return numberOf(t.Length, 285, inflate.Length)
}

func distanceOf(t Token) number {
	return numberOf(t.Distance, blocks.Distances-1, inflate.Distance)
}

// numberOf: how n is told, by symbols up to the last one, of which leastOf tells the least number and the bits.
func numberOf(n, last int, leastOf func(int) (int, int, bool)) number {
	symbol := last
	start, bits, _ := leastOf(symbol)
	for start > n {
		symbol--
		start, bits, _ = leastOf(symbol)
	}
	return number{symbol: symbol, more: n - start, bits: bits}
}

// head puts the lengths of kind 2's codes.
func (p *packer) head(c codes) {
	order := blocks.Order()
	p.Put(blocks.Literals-blocks.LeastLiterals, 5)
	p.Put(blocks.Distances-blocks.LeastDistances, 5)
	p.Put(len(order)-blocks.LeastLengths, 4)
	var lengths [len(order)]int
	for symbol := range lengthSymbols {
		lengths[symbol] = lengthBits
	}
	for _, symbol := range order {
		p.Put(lengths[symbol], 3)
	}
	b := bookOf(lengths[:])
	for _, n := range c.literals.lengths {
		p.symbol(b, n)
	}
	for _, n := range c.distances.lengths {
		p.symbol(b, n)
	}
}
