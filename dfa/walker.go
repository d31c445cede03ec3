package dfa

import "ferret/prog"

// walker follows a program's ways from a state, as far as they come without a byte.
type walker struct {
	prog.Program
	been   []int // for each instruction the state, in the order in which they were asked, from which it was come to last
	asked  int
	beside string // samples of what stands ahead of the place and there
	place  int    // in them
	stands []int  // the Bytes that ways have come to, the first ones ahead
	others []int  // where Splits' other ways go on; the last one is tried first
}

// gather follows ways to the Bytes that they stand at; true: one of them ended well, and none behind it is followed.
func (w *walker) gather(ways []int, last, there int) bool {
	if w.been == nil { // not sooner: where all states are kept, none is followed
		w.been = make([]int, len(w.List))
	}
	w.asked++
	w.stands = w.stands[:0]
	ahead := sample(last)
	w.beside, w.place = ahead+sample(there), len(ahead)
	for _, at := range ways {
		if w.follow(at) {
			return true
		}
	}
	return false
}

// follow goes on from an instruction to Bytes; true: a way has ended well, and whatever would be tried behind it comes too late.
func (w *walker) follow(at int) bool {
	w.others = w.others[:0]
onward:
	if w.isNew(at) {
		switch i := w.List[at]; i.Kind {
		case prog.Byte:
			w.stands = append(w.stands, at)
		case prog.Split:
			w.others = append(w.others, i.B)
			at = i.A
			goto onward
		case prog.Jump, prog.Save:
			at = i.A
			goto onward
		case prog.Assert:
			if prog.Holds(i.B, w.beside, w.place) {
				at = i.A
				goto onward
			}
		case prog.Match:
			return true
		}
	}
	if last := len(w.others) - 1; last >= 0 {
		at = w.others[last]
		w.others = w.others[:last]
		goto onward
	}
	return false
}

// isNew: is this the first time that a way comes to an instruction here? To one that there isn't none does.
func (w *walker) isNew(at int) bool {
	if at < 0 || at >= len(w.List) || w.been[at] == w.asked {
		return false
	}
	w.been[at] = w.asked
	return true
}

// over: where the ways go on that pass over a byte.
func (w *walker) over(b int) []int {
	var ways []int
	for _, at := range w.stands {
		if i := w.List[at]; i.Range.From <= b && b <= i.Range.To {
			ways = append(ways, i.A)
		}
	}
	return ways
}
