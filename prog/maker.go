package prog

import (
	"ferret/api"
	"ferret/syntax"
	"ferret/utfsplit"
)

// endless is the Max of a Repeat without an end.
const endless = -1

// maker lays instructions one behind the other.
type maker struct {
	list []Instr
}

// next: the place of the instruction that is laid next.
func (m *maker) next() int {
	return len(m.list)
}

func (m *maker) tooMany() bool {
	return len(m.list) > api.MaxProgram
}

// put lays an instruction, and tells its place.
func (m *maker) put(i Instr) int {
	m.list = append(m.list, i)
	return len(m.list) - 1
}

// putOn lays one that goes on at the next.
func (m *maker) putOn(i Instr) {
	i.A = m.next() + 1
	m.put(i)
}

// noted lays a tree, and notes of a group where it begins and ends.
func (m *maker) noted(group int, n syntax.Node) {
	m.putOn(Instr{Kind: Save, B: 2 * group})
	m.tree(n)
	m.putOn(Instr{Kind: Save, B: 2*group + 1})
}

// tree lays one that layer 12 made.
func (m *maker) tree(n syntax.Node) {
	if m.tooMany() {
		return // whatever follows, it is ErrBig; and what follows may come to very much
	}
	switch n.Kind {
	case syntax.Class:
		m.rows(utfsplit.Split(n.Set))
	case syntax.BeginText, syntax.EndText, syntax.BeginLine, syntax.EndLine, syntax.Word, syntax.NotWord:
		m.putOn(Instr{Kind: Assert, B: n.Kind})
	case syntax.Cat:
		for _, kid := range n.Kids {
			m.tree(kid)
		}
	case syntax.Alt:
		m.alternatives(len(n.Kids), func(i int) { m.tree(n.Kids[i]) })
	case syntax.Repeat:
		m.repeat(n)
	case syntax.Group:
		m.noted(n.Cap, n.Kids[0])
	}
}

func (m *maker) rows(l []utfsplit.Row) {
	if len(l) == 0 {
		m.put(Instr{Kind: Fail})
		return
	}
	m.alternatives(len(l), func(i int) { m.row(l[i]) })
}

func (m *maker) row(w utfsplit.Row) {
	for _, r := range w {
		m.putOn(Instr{Kind: Byte, Range: r})
	}
}

// alternatives lays so many, at least one; lay lays the one that has so many ahead.
func (m *maker) alternatives(count int, lay func(ahead int)) {
	last := count - 1
	var jumps []int
	for i := range last {
		split := m.put(Instr{Kind: Split})
		lay(i)
		jumps = append(jumps, m.put(Instr{Kind: Jump}))
		m.fork(split, false)
	}
	lay(last)
	for _, jump := range jumps {
		m.list[jump].A = m.next()
	}
}

func (m *maker) repeat(n syntax.Node) {
	split := m.put(Instr{Kind: Split})
	m.tree(n.Kids[0])
	if n.Max == endless {
		m.put(Instr{Kind: Jump, A: split})
	}
	m.fork(split, n.Lazy)
}

// fork gives a Split its two ways, what stands behind it and what is laid next; with lazy the other way round.
func (m *maker) fork(split int, lazy bool) {
	first, second := split+1, m.next()
	if lazy {
		first, second = second, first
	}
	m.list[split].A, m.list[split].B = first, second
}
