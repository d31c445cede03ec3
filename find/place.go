package find

import (
	"ferret/prefix"
	"ferret/prog"
	"ferret/sets"
	"ferret/simple"
	"ferret/syntax"
)

const (
	nowhere = -1 // a place that there isn't
	longest = 4  // bytes of a scalar in UTF-8
)

// start is with what matches begin, as layer 18 tells it.
type start struct {
	word  string
	first sets.Set
	empty bool
}

// startOf: of a pattern's tree and its program. That the tree isn't too big to be made simpler, the program shows.
func startOf(root syntax.Node, p prog.Program) start {
	var s start
	tree, _ := simple.Simplify(root)
	s.word, _ = prefix.Literal(tree)
	s.first, s.empty = prefix.First(p)
	return s
}

// next: the next place at which a match may begin.
func (s start) next(text string, from int) int {
	return prefix.Next(text, s.word, s.first, s.empty, from)
}

// nextPlace: the next one behind a place, so that no scalar is cut; of bytes that are none's no more are passed over than one could have.
func nextPlace(text string, place int) int {
	next := place + 1
	if next > len(text) {
		return nowhere
	}
	for next < len(text) && next < place+longest && goesOn(text[next]) {
		next++
	}
	return next
}

// goesOn: is a byte one that, in UTF-8, only stands behind others of its scalar?
func goesOn(b byte) bool {
	return b&0xC0 == 0x80
}
