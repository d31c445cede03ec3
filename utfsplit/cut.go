package utfsplit

import (
	"ferret/api"
	"ferret/coding"
)

// furtherBits of a scalar has each byte behind the first.
const furtherBits = 6

// borders: of the scalars of one byte, of two, of three and of four, the number behind the last.
var borders = [...]int{0x80, 0x800, 0x10000, api.MaxRune + 1}

// cutByLength puts the parts of a range of scalars, in order, each of which is told by one row.
func cutByLength(r api.Range, put func(part api.Range)) {
	for further, border := range borders {
		part := api.Range{From: r.From, To: min(r.To, border-1)}
		if part.From <= part.To {
			cut(part, further, put)
		}
		r.From = max(r.From, border)
	}
}

// cut puts the parts of a range of scalars that have so many further bytes behind the first.
func cut(r api.Range, further int, put func(part api.Range)) {
	for i := range further {
		if at, ok := cutAt(r, (i+1)*furtherBits); ok {
			cut(api.Range{From: r.From, To: at - 1}, further, put)
			cut(api.Range{From: at, To: r.To}, further, put)
			return
		}
	}
	put(r)
}

// cutAt: where a range's second part must begin, since what its lowest bits may be isn't the same for all that stands above them.
func cutAt(r api.Range, bits int) (int, bool) {
	lowest := 1<<bits - 1
	switch {
	case r.From>>bits == r.To>>bits:
		return 0, false
	case r.From&lowest != 0:
		return (r.From | lowest) + 1, true
	case r.To&lowest != lowest:
		return r.To &^ lowest, true
	}
	return 0, false
}

// rowOf: the row of a part, whose ends tell the ends of each byte.
func rowOf(part api.Range) Row {
	least, greatest := bytesOf(part.From), bytesOf(part.To)
	row := make(Row, len(least))
	for i := range row {
		row[i] = api.Range{From: int(least[i]), To: int(greatest[i])}
	}
	return row
}

func bytesOf(scalar int) string {
	text, _ := coding.Encode([]int{scalar}, coding.UTF8, false)
	return text
}
