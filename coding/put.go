package coding

// putter: what puts a scalar's bytes behind those that stand in out.
func putter(out *[]byte, coding int) func(scalar int) {
	put := func(l ...int) {
		for _, b := range l {
			*out = append(*out, byte(b))
		}
	}
	switch coding {
	case Little:
		return pairPutter(func(unit int) { put(unit&0xFF, unit>>8) })
	case Big:
		return pairPutter(func(unit int) { put(unit>>8, unit&0xFF) })
	case Latin1:
		return func(scalar int) { put(scalar) }
	}
	return func(scalar int) { putUTF8(put, scalar) }
}

func pairPutter(put func(unit int)) func(scalar int) {
	return func(scalar int) {
		if scalar < firstPair {
			put(scalar)
			return
		}
		above := scalar - firstPair
		put(firstHalf + above>>halfBits)
		put(secondHalf + above&(1<<halfBits-1))
	}
}

func putUTF8(put func(l ...int), scalar int) {
	// Each further byte has six bits, the lowest ones last.
	further := func(shift int) int { return 0x80 | scalar>>shift&0x3F }
	switch {
	case scalar < 0x80:
		put(scalar)
	case scalar < 0x800:
		put(0xC0|scalar>>6, further(0))
	case scalar < 0x10000:
		put(0xE0|scalar>>12, further(6), further(0))
	default:
		put(0xF0|scalar>>18, further(12), further(6), further(0))
	}
}
