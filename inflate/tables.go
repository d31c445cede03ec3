package inflate

import (
	"ferret/api"
	"ferret/blocks"
	"ferret/huff"
)

// The symbols that tell more than one length of kind 2's codes at a time.
const (
	sameAgain  = 16
	someNought = 17
	manyNought = 18
)

func (u *unpacker) fixedTables() tables {
	if u.fixed.literals == nil {
		u.fixed, _ = tablesOf(blocks.FixedLiterals(), blocks.FixedDistances())
	}
	return u.fixed
}

func tablesOf(literals, distances []int) (tables, api.Errno) {
	l, err := huff.New(literals)
	if err != api.OK {
		return tables{}, err
	}
	d, err := huff.New(distances)
	if err != api.OK {
		return tables{}, err
	}
	return tables{literals: l, distances: d}, api.OK
}

// dynamicTables takes the head of a block of kind 2.
func (u *unpacker) dynamicTables() (tables, api.Errno) {
	l, err := u.Take(5)
	if err != api.OK {
		return tables{}, err
	}
	d, err := u.Take(5)
	if err != api.OK {
		return tables{}, err
	}
	c, err := u.Take(4)
	if err != api.OK {
		return tables{}, err
	}
	literals, distances := l+blocks.LeastLiterals, d+blocks.LeastDistances
	if literals > blocks.Literals || distances > blocks.Distances {
		return tables{}, api.ErrCode
	}
	t, err := u.lengthTable(c + blocks.LeastLengths)
	if err != api.OK {
		return tables{}, err
	}
	lengths, err := u.lengths(t, literals+distances)
	if err != api.OK {
		return tables{}, err
	}
	if lengths[blocks.End] == 0 {
		return tables{}, api.ErrCode
	}
	return tablesOf(lengths[:literals], lengths[literals:])
}

// lengthTable: the table by which the lengths of the other tables' codes are told, of so many numbers.
func (u *unpacker) lengthTable(numbers int) (*huff.Table, api.Errno) {
	order := blocks.Order()
	var lengths [len(order)]int
	for _, symbol := range order[:numbers] {
		n, err := u.Take(3)
		if err != api.OK {
			return nil, err
		}
		lengths[symbol] = n
	}
	return huff.New(lengths[:])
}

// lengths: as many as are wanted, of both tables in one row, since one symbol may tell lengths of both.
func (u *unpacker) lengths(t *huff.Table, wanted int) ([]int, api.Errno) {
	var told []int
	for len(told) < wanted {
		symbol, err := t.Next(u.Reader)
		if err != api.OK {
			return nil, err
		}
		length, times, err := u.toldBy(symbol, told)
		if err != api.OK {
			return nil, err
		}
		if times > wanted-len(told) {
			return nil, api.ErrCode
		}
		for range times {
			told = append(told, length)
		}
	}
	return told, api.OK
}

// toldBy: which length a symbol tells, and how many times, behind those ahead.
func (u *unpacker) toldBy(symbol int, ahead []int) (int, int, api.Errno) {
	length, least, n := symbol, 1, 0
	switch symbol {
	case sameAgain:
		if len(ahead) == 0 {
			return 0, 0, api.ErrCode
		}
		length, least, n = ahead[len(ahead)-1], 3, 2
	case someNought:
		length, least, n = 0, 3, 3
	case manyNought:
		length, least, n = 0, 11, 7
	}
	more, err := u.Take(n)
	return length, least + more, err
}
