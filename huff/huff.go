// Package huff is layer 2: see shared/doc/02-huff.md.
package huff

import (
	"slices"

	"ferret/api"
	"ferret/bits"
)

const (
	longest = 15           // bits of a code
	room    = 1 << longest // that all codes together may take
	symbols = 1024         // that a table may have

	// A code of 15 bits is found in three lookups, and a table of short codes has just one small row.
	rowBits = 5
	rowSize = 1 << rowBits
)

// Table decodes symbols.
type Table struct {
	codes []int
	cells []cell // rows of rowSize; none where there is no code
}

// cell tells what a row's bits lead to: a symbol (length isn't 0), the row behind which further bits are looked up (further isn't 0), or nothing.
type cell struct {
	symbol  int
	length  int // of the whole code
	further int // where the row begins; no code leads back to the first one, at 0
}

// New: the table of code lengths.
func New(lengths []int) (*Table, api.Errno) {
	if len(lengths) > symbols {
		return nil, api.ErrArg
	}
	var counts [longest + 1]int
	for _, n := range lengths {
		if n < 0 || n > longest {
			return nil, api.ErrArg
		}
		counts[n]++
	}
	counts[0] = 0 // those have no code
	if err := checkRoom(counts); err != api.OK {
		return nil, err
	}
	t := &Table{codes: codesOf(lengths, counts)}
	for symbol, n := range lengths {
		if n > 0 {
			t.lay(symbol, n)
		}
	}
	return t, api.OK
}

// checkRoom: whether codes, so many of each length, take the room that there is.
func checkRoom(counts [longest + 1]int) api.Errno {
	taken, codes := 0, 0
	for n, count := range counts {
		taken += count << (longest - n)
		codes += count
	}
	switch {
	case taken > room:
		return api.ErrOver
	case taken == room, codes == 0, codes == 1 && counts[1] == 1:
		return api.OK
	}
	return api.ErrUnder
}

func codesOf(lengths []int, counts [longest + 1]int) []int {
	var next [longest + 1]int // the code of the next symbol, by its length
	for n := 1; n <= longest; n++ {
		next[n] = (next[n-1] + counts[n-1]) << 1
	}
	codes := make([]int, len(lengths))
	for symbol, n := range lengths {
		if n > 0 {
			codes[symbol] = next[n]
			next[n]++
		}
	}
	return codes
}

// lay lays a symbol's code, of so many bits, into the rows.
func (t *Table) lay(symbol, length int) {
	if len(t.cells) == 0 {
		t.addRow()
	}
	row, rest := 0, length
	path := turned(t.codes[symbol], length)
	for rest > rowBits {
		row = t.rowBehind(row + path%rowSize)
		path >>= rowBits
		rest -= rowBits
	}
	// Whatever the bits behind the code are, it is this symbol's.
	for i := path; i < rowSize; i += 1 << rest {
		t.cells[row+i] = cell{symbol: symbol, length: length}
	}
}

// rowBehind: where the row begins that a cell leads to; it is added, where there is none yet.
func (t *Table) rowBehind(at int) int {
	if t.cells[at].further > 0 {
		return t.cells[at].further
	}
	// In a statement of its own: addRow may put another list of cells in the place of this one, and the link belongs into that.
	further := t.addRow()
	t.cells[at].further = further
	return further
}

// addRow: where the row that it adds begins.
func (t *Table) addRow() int {
	at := len(t.cells)
	t.cells = append(t.cells, make([]cell, rowSize)...)
	return at
}

// turned: a code with its highest bit the lowest, as a reader tells it.
func turned(code, length int) int {
	back := 0
	for i := range length {
		back = back<<1 | code>>i&1
	}
	return back
}

// Codes: the code of each symbol.
func (t *Table) Codes() []int {
	if t == nil {
		return nil
	}
	return slices.Clone(t.codes)
}

// Next: the next symbol of a reader.
func (t *Table) Next(r *bits.Reader) (int, api.Errno) {
	if t == nil || r == nil {
		return 0, api.ErrArg
	}
	if len(t.cells) == 0 {
		return 0, api.ErrCode
	}
	path, _ := r.Peek(longest)
	row := 0
lookup:
	found := t.cells[row+path%rowSize]
	if found.further > 0 {
		row = found.further
		path >>= rowBits
		goto lookup
	}
	if found.length == 0 {
		return 0, api.ErrCode
	}
	// Bits that aren't there were looked up as nought: then the bits that are there begin this code, and Take answers ErrEnd.
	if _, err := r.Take(found.length); err != api.OK {
		return 0, err
	}
	return found.symbol, api.OK
}

// Even: lengths of codes for symbols that are used, as even as can be.
func Even(used []bool) []int {
	lengths := make([]int, len(used))
	m := 0
	for _, u := range used {
		if u {
			m++
		}
	}
	if m == 0 || m > room {
		return lengths
	}
	k := 0
	for 2<<k <= m {
		k++
	}
	short := 2<<k - m // so many get k bits
	for symbol, u := range used {
		switch {
		case !u:
		case short > 0:
			lengths[symbol] = max(k, 1) // one alone has a bit, too
			short--
		default:
			lengths[symbol] = k + 1
		}
	}
	return lengths
}
