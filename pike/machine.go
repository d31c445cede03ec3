package pike

import (
	"ferret/api"
	"ferret/prog"
)

const (
	never = -1 // noted: the number wasn't
	other = -1 // number of a turn that is a Split's other way
)

// machine follows all ways of a program over a text side by side, from place to place.
// That comes to what the chapter's ways do, one behind the other: at each place an instruction is the first way's that comes to it, and from a place nothing leads back to one ahead.
type machine struct {
	prog.Program
	text   string
	been   []int // for each instruction one more than the place at which it was come to last
	now    row   // at the place to which ways are taken
	next   row   // at the place behind it
	turns  []turn
	notes  []int // of the way that is followed
	fresh  []int // of a way that begins
	best   []int // of the first way that ended well, of those that were followed to their end
	begins bool  // may ways still begin?
}

// row holds where ways go on that have passed over a byte, the first ones ahead, and what each has noted, one behind the other.
type row struct {
	ways  []int
	notes []int
}

// turn is something to go back to: a Split's other way, or what a number was ahead of a Save.
type turn struct {
	number int
	place  int // noted as the number; or the instruction at which the other way goes on
}

func newMachine(p prog.Program, text string) *machine {
	fresh := make([]int, 2*p.Groups)
	for i := range fresh {
		fresh[i] = never
	}
	return &machine{Program: p, text: text, been: make([]int, len(p.List)), fresh: fresh, begins: true}
}

// goesOn: could another way still end well, ahead of the best?
func (m *machine) goesOn() bool {
	return m.begins || len(m.next.ways) > 0
}

// begin begins a way at a place, behind all that have come there.
func (m *machine) begin(place int) {
	if m.begins {
		m.notes = m.fresh
		m.follow(0, place)
	}
}

// goOn follows all ways that have come to a place, the first ones first.
func (m *machine) goOn(place int) {
	m.now, m.next = m.next, m.now
	m.next.ways, m.next.notes = m.next.ways[:0], m.next.notes[:0]
	width := len(m.fresh)
	for k, at := range m.now.ways {
		m.notes = m.now.notes[k*width : (k+1)*width]
		if m.follow(at, place) {
			return
		}
	}
}

// follow goes on from an instruction, with what is noted, to all bytes at the place that may be passed over.
// True: a way has ended well, and whatever would be tried behind it comes too late.
func (m *machine) follow(at, place int) bool {
	var more bool
	m.turns = m.turns[:0]
onward:
	if m.isNew(at, place) {
		switch i := m.List[at]; i.Kind {
		case prog.Byte:
			if m.fits(i.Range, place) {
				m.pass(i.A)
			}
		case prog.Split:
			m.turns = append(m.turns, turn{number: other, place: i.B})
			at = i.A
			goto onward
		case prog.Jump:
			at = i.A
			goto onward
		case prog.Save:
			m.note(i.B, place)
			at = i.A
			goto onward
		case prog.Assert:
			if prog.Holds(i.B, m.text, place) {
				at = i.A
				goto onward
			}
		case prog.Match:
			m.best = append(m.best[:0], m.notes...)
			m.begins = false
			return true
		}
	}
	if at, more = m.back(); more {
		goto onward
	}
	return false
}

// isNew: is this the first time that a way comes to an instruction at a place? To one that there isn't none does.
func (m *machine) isNew(at, place int) bool {
	if at < 0 || at >= len(m.List) || m.been[at] == place+1 {
		return false
	}
	m.been[at] = place + 1
	return true
}

// fits: is there a byte at a place, and is it in the range?
func (m *machine) fits(r api.Range, place int) bool {
	return place < len(m.text) && r.From <= int(m.text[place]) && int(m.text[place]) <= r.To
}

// pass takes the way that is followed over a byte, behind which it goes on at an instruction.
func (m *machine) pass(at int) {
	m.next.ways = append(m.next.ways, at)
	m.next.notes = append(m.next.notes, m.notes...)
}

// note notes a place; of a tree made by hand a number may be greater than its groups have.
func (m *machine) note(number, place int) {
	if number < 0 || number >= len(m.notes) {
		return
	}
	m.turns = append(m.turns, turn{number: number, place: m.notes[number]})
	m.notes[number] = place
}

// back: where the last other way goes on that wasn't tried, with what was noted at its Split.
func (m *machine) back() (int, bool) {
	for len(m.turns) > 0 {
		last := m.turns[len(m.turns)-1]
		m.turns = m.turns[:len(m.turns)-1]
		if last.number == other {
			return last.place, true
		}
		m.notes[last.number] = last.place
	}
	return 0, false
}
