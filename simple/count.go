package simple

import "ferret/syntax"

// maxCount: Counts above it aren't told apart.
const maxCount = 1 << 20

// Count: how many nodes a tree comes to.
func Count(n syntax.Node) int {
	switch n.Kind {
	case syntax.Cat, syntax.Alt:
		return countAll(n.Kids...)
	case syntax.Group:
		return countAll(firstKid(n))
	case syntax.Repeat:
		return countRepeat(n)
	}
	return 1
}

// countAll: of a node that has some Kids.
func countAll(kids ...syntax.Node) int {
	total := 1
	for _, kid := range kids {
		total = bounded(total + Count(kid))
		if total > maxCount {
			break // whatever follows, it is told so
		}
	}
	return total
}

func countRepeat(n syntax.Node) int {
	t := timesOf(n)
	if t.never() {
		return 1
	}
	c := Count(firstKid(n))
	// The times are bounded too: those of a tree that is made by hand may be any number.
	total := 1 + bounded(t.sure)*c + bounded(t.perhaps)*(c+2)
	if t.endless {
		total += 1 + c
	}
	return bounded(total)
}

func bounded(n int) int {
	return min(n, maxCount+1)
}
