package coding

// bad is told where no scalar is: none has this number.
const bad = -1

// lead is a range of first bytes of UTF-8: how many bytes follow them, and which of these the second may be.
type lead struct {
	first, last byte
	further     int
	low, high   byte
}

var leads = [...]lead{
	{first: 0x00, last: 0x7F},
	{first: 0xC2, last: 0xDF, further: 1, low: 0x80, high: 0xBF},
	{first: 0xE0, last: 0xE0, further: 2, low: 0xA0, high: 0xBF},
	{first: 0xE1, last: 0xEC, further: 2, low: 0x80, high: 0xBF},
	{first: 0xED, last: 0xED, further: 2, low: 0x80, high: 0x9F},
	{first: 0xEE, last: 0xEF, further: 2, low: 0x80, high: 0xBF},
	{first: 0xF0, last: 0xF0, further: 3, low: 0x90, high: 0xBF},
	{first: 0xF1, last: 0xF3, further: 3, low: 0x80, high: 0xBF},
	{first: 0xF4, last: 0xF4, further: 3, low: 0x80, high: 0x8F},
}

// taker: what tells the scalar that begins at a place, or bad, and how many bytes it has.
func taker(data string, coding int) func(at int) (int, int) {
	switch coding {
	case Little, Big:
		unit := units(data, coding)
		return func(at int) (int, int) { return takePair(unit, at) }
	case Latin1:
		return func(at int) (int, int) { return int(data[at]), 1 }
	}
	return func(at int) (int, int) { return takeUTF8(data[at:]) }
}

// units: what tells the number in the two bytes from a place on, or bad, where there aren't two.
func units(data string, coding int) func(at int) int {
	low, high := 0, 1
	if coding == Big {
		low, high = 1, 0
	}
	return func(at int) int {
		if at+2 > len(data) {
			return bad
		}
		return int(data[at+low]) | int(data[at+high])<<8
	}
}

func takePair(unit func(at int) int, at int) (int, int) {
	first := unit(at)
	if first == bad {
		return bad, 1
	}
	if !isHalf(first) {
		return first, 2
	}
	second := unit(at + 2)
	if first >= secondHalf || second < secondHalf || second >= behindHalf {
		return bad, 2
	}
	return firstPair + (first-firstHalf)<<halfBits + second - secondHalf, 4
}

// takeUTF8 takes from data that isn't empty.
func takeUTF8(data string) (int, int) {
	l, ok := leadOf(data[0])
	if !ok {
		return bad, 1
	}
	// The bit ahead of a first byte's own bits is 0, so that it may be taken with them.
	scalar := int(data[0]) & (0x7F >> l.further)
	low, high := l.low, l.high
	for i := 1; i <= l.further; i++ {
		if i == len(data) || data[i] < low || data[i] > high {
			return bad, i
		}
		scalar = scalar<<6 | int(data[i]&0x3F)
		low, high = 0x80, 0xBF
	}
	return scalar, 1 + l.further
}

func leadOf(b byte) (lead, bool) {
	for _, l := range leads {
		if l.first <= b && b <= l.last {
			return l, true
		}
	}
	return lead{}, false
}
