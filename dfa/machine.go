package dfa

import (
	"slices"

	"ferret/prog"
)

// machine keeps a program's states.
type machine struct {
	prog.Program
	most    int
	states  map[string]*state // by their keys
	asks    bool              // has the program borders?
	class   [end + 1]int      // of each byte, and of none: from each state those of one class lead to the same
	classes int
}

func newMachine(p prog.Program, most int) machine {
	p.List = slices.Clone(p.List) // what was handed in may be changed later
	m := machine{Program: p, most: most, states: map[string]*state{}}
	m.asks = slices.ContainsFunc(p.List, func(i prog.Instr) bool { return i.Kind == prog.Assert })
	m.classify()
	return m
}

// classify gives each byte its class, a new one wherever a Range or a kind begins or ends.
func (m *machine) classify() {
	var cut [end]bool
	mark := func(b int) {
		if 0 <= b && b < end {
			cut[b] = true
		}
	}
	for _, i := range m.List {
		if i.Kind == prog.Byte {
			mark(i.Range.From)
			mark(i.Range.To + 1)
		}
	}
	for b := 1; b < end; b++ {
		m.class[b] = m.class[b-1]
		if cut[b] || m.kind(b) != m.kind(b-1) {
			m.class[b]++
		}
	}
	m.class[end] = m.class[end-1] + 1
	m.classes = m.class[end] + 1
}

// kind: without borders none is told from another, so that there are fewer states.
func (m *machine) kind(b int) int {
	if !m.asks {
		return nothing
	}
	return kindOf(b)
}

// run: where the first way ends that ends well.
func (m *machine) run(text string, from int, fixed bool) (int, bool) {
	found, ok := 0, false
	w := &walker{Program: m.Program}
	s := m.keep(state{ways: []int{0}, last: m.kind(byteAt(text, from-1)), begins: !fixed})
	for place := from; place <= len(text) && len(s.ways) > 0; place++ {
		s = m.behind(w, s, byteAt(text, place))
		if s.ended {
			found, ok = place, true
		}
	}
	return found, ok
}

// behind: the state behind a byte.
func (m *machine) behind(w *walker, s *state, b int) *state {
	next := s.next[m.class[b]]
	if next == nil {
		next = m.keep(m.after(w, s, b))
		s.next[m.class[b]] = next
	}
	return next
}

// after: what ways come to that pass over a byte; behind the text's end there is nothing any more.
func (m *machine) after(w *walker, s *state, b int) state {
	ended := w.gather(s.ways, s.last, m.kind(b))
	if b == end {
		return state{ended: ended}
	}
	ways, begins := w.over(b), s.begins && !ended
	if begins {
		ways = append(ways, 0)
	}
	if len(ways) == 0 {
		return state{ended: ended}
	}
	return state{ways: ways, last: m.kind(b), begins: begins, ended: ended}
}

// keep: the state that is kept as this one; where there is no room for it, all others are given up.
func (m *machine) keep(s state) *state {
	key := s.key()
	if kept := m.states[key]; kept != nil {
		return kept
	}
	if len(m.states) >= m.most {
		clear(m.states)
	}
	s.next = make([]*state, m.classes)
	m.states[key] = &s
	return &s
}
