package inflate

import (
	"slices"
	"strings"
	"testing"

	"ferret/api"
)

// P3.2: kind 2

func TestKind2(t *testing.T) {
	wantGood(t, "empty, with one code and without distances", "", func(s *stream) {
		l, _ := s.dynamic(map[int]int{256: 1}, nil)
		s.symbols(l, 256)
	})
	wantGood(t, "bytes without distances", "abba", func(s *stream) {
		l, _ := s.dynamic(map[int]int{'a': 1, 'b': 2, 256: 2}, nil)
		s.symbols(l, 'a', 'b', 'b', 'a', 256)
	})
	wantGood(t, "two distances", "abaabaabbbb", func(s *stream) {
		l, d := s.dynamic(map[int]int{'a': 1, 'b': 2, 256: 3, 257: 3}, map[int]int{0: 1, 2: 1})
		s.symbols(l, 'a', 'b', 'a', 257)
		s.symbols(d, 2)
		s.symbols(l, 'a', 'b', 257)
		s.symbols(d, 0)
		s.symbols(l, 256)
	})
	wantGood(t, "L is 28, and one distance", strings.Repeat("a", 259), func(s *stream) {
		l, d := s.dynamic(map[int]int{'a': 2, 285: 2, 256: 1}, map[int]int{0: 1})
		s.symbols(l, 'a', 285)
		s.symbols(d, 0)
		s.symbols(l, 256)
	})
	wantGood(t, "a literal of nought, and no other", "\x00\x00", func(s *stream) {
		l, _ := s.dynamic(map[int]int{0: 1, 256: 1}, nil)
		s.symbols(l, 0, 0, 256)
	})
}

// Codes of up to 15 bits.
func TestKind2LongCodes(t *testing.T) {
	literals, distances := map[int]int{256: 15, 257: 15}, map[int]int{28: 15, 29: 15}
	for n := 1; n < 15; n++ {
		literals['a'+n], distances[n-1] = n, n
	}
	wantGood(t, "long codes", "bcdefghijklmnohij", func(s *stream) {
		l, d := s.dynamic(literals, distances)
		for n := range 14 {
			s.symbols(l, 'b'+n)
		}
		s.symbols(l, 257)
		s.symbols(d, 5) // 7 or 8
		s.put(1, 1)
		s.symbols(l, 256)
	})
	wantFault(t, "the greatest distance", plenty, api.ErrFar, func(s *stream) int {
		l, d := s.dynamic(literals, distances)
		s.symbols(l, 'b', 257)
		s.symbols(d, 29)
		s.put(8191, 13)
		return s.n
	})
}

// tell puts a symbol of the lengths, with the bits behind it.
func tell(s *stream, symbol, more int) {
	s.symbols(lengthBook(), symbol)
	s.put(more, map[int]int{16: 2, 17: 3, 18: 7}[symbol])
}

// Lengths by rows: 138 and 108 times nought, 10 times nought, then those of 256 on.
func upTo256(s *stream) {
	tell(s, 18, 127)
	tell(s, 18, 108-11)
	tell(s, 17, 7)
}

func TestKind2RowsOfLengths(t *testing.T) {
	wantGood(t, "noughts", "", func(s *stream) {
		s.head(0, 0, 15, lengthBook())
		upTo256(s)
		tell(s, 1, 0)
		tell(s, 0, 0)
		s.put(0, 1)
	})
	wantGood(t, "the least rows of nought", "\x0e", func(s *stream) {
		s.head(0, 0, 15, lengthBook())
		tell(s, 17, 0) // 3
		tell(s, 18, 0) // 11
		tell(s, 1, 0)  // of 14
		tell(s, 18, 127)
		tell(s, 18, 103-11)
		tell(s, 1, 0) // of 256
		tell(s, 0, 0)
		s.put(0b10, 2)
	})
	wantGood(t, "the same again", "\x00\x06", func(s *stream) {
		s.head(0, 0, 15, lengthBook())
		tell(s, 3, 0)
		tell(s, 16, 3) // six more
		tell(s, 18, 127)
		tell(s, 18, 111-11)
		tell(s, 3, 0) // of 256
		tell(s, 0, 0)
		for _, code := range []int{0, 6, 7} {
			s.code(code, 3)
		}
	})
	wantGood(t, "a row of the literals' and the distances' lengths", "\x00\x00\x00\x00", func(s *stream) {
		s.head(1, 3, 15, lengthBook())
		tell(s, 2, 0)
		tell(s, 18, 127)
		tell(s, 18, 116-11)
		tell(s, 0, 0)
		tell(s, 1, 0) // of 256
		tell(s, 2, 0) // of 257
		tell(s, 16, 1)
		s.code(0b10, 2)
		s.code(0b11, 2)
		s.code(0b00, 2)
		s.code(0b0, 1)
	})
	wantGood(t, "nought again", "", func(s *stream) {
		s.head(0, 5, 15, lengthBook())
		upTo256(s)
		tell(s, 1, 0)
		tell(s, 0, 0)
		tell(s, 16, 2)
		s.put(0, 1)
	})
	wantGood(t, "a row of nought over both", "", func(s *stream) {
		s.head(2, 1, 15, lengthBook())
		upTo256(s)
		tell(s, 1, 0)
		tell(s, 17, 1)
		s.put(0, 1)
	})
}

// C tells how many lengths of the lengths' symbols are there: the others are 0.
func TestKind2FewLengthSymbols(t *testing.T) {
	wantGood(t, "eighteen: the last of them is 1", "", func(s *stream) {
		b := bookOf(lengthsOf(19, map[int]int{1: 2, 18: 1, 0: 2})...)
		s.head(0, 0, 14, b)
		s.symbols(b, 18)
		s.put(127, 7)
		s.symbols(b, 18)
		s.put(118-11, 7)
		s.symbols(b, 1, 0)
		s.put(0, 1)
	})
	wantGood(t, "five: all the literals have eight bits", "", func(s *stream) {
		b := bookOf(lengthsOf(19, map[int]int{8: 1, 0: 1})...)
		s.head(0, 0, 1, b)
		s.symbols(b, 0)
		s.symbols(b, slices.Repeat([]int{8}, 256)...)
		s.symbols(b, 0)
		s.code(255, 8)
	})
	b := bookOf(lengthsOf(19, map[int]int{0: 1, 18: 1})...)
	wantFault(t, "four: none of them tells 256 a length", 9, api.ErrCode, func(s *stream) int {
		s.head(0, 0, 0, b)
		s.symbols(b, 18)
		s.put(127, 7)
		s.symbols(b, 18)
		s.put(120-11, 7)
		taken := s.n
		s.put(0, 32)
		return taken
	})
}

func TestKind2HeadFaults(t *testing.T) {
	for _, x := range []struct{ l, d int }{{30, 0}, {31, 0}, {0, 30}, {0, 31}, {31, 31}, {30, 29}, {29, 30}} {
		wantFault(t, "L or D above 29", 9, api.ErrCode, func(s *stream) int {
			s.block(1, 2)
			s.put(x.l, 5)
			s.put(x.d, 5)
			s.put(15, 4)
			taken := s.n
			s.put(0, 32)
			return taken
		})
	}
	for _, x := range []struct {
		name    string
		lengths []int
		code    api.Errno
	}{
		{"no lengths' code", lengthsOf(19, nil), api.ErrCode},
		{"lengths' codes over", lengthsOf(19, map[int]int{0: 1, 1: 1, 15: 7}), api.ErrOver},
		{"lengths' codes under", lengthsOf(19, map[int]int{0: 1, 1: 2}), api.ErrUnder},
		{"one lengths' code of two bits", lengthsOf(19, map[int]int{15: 2}), api.ErrUnder},
		{"one lengths' code of one bit, another wanted", lengthsOf(19, map[int]int{15: 1}), api.ErrCode},
	} {
		wantFault(t, x.name, 9, x.code, func(s *stream) int {
			s.head(29, 29, 15, bookOf(x.lengths...))
			taken := s.n
			s.put(-1, 32)
			return taken
		})
	}
}

func TestKind2LengthsFaults(t *testing.T) {
	wantFault(t, "nothing ahead to come again", 9, api.ErrCode, func(s *stream) int {
		s.head(0, 0, 15, lengthBook())
		s.symbols(lengthBook(), 16)
		taken := s.n
		s.put(0, 32)
		return taken
	})
	for _, x := range []struct{ symbol, more, wanted int }{{16, 0, 2}, {16, 3, 5}, {17, 0, 2}, {17, 7, 9}, {18, 0, 10}, {18, 127, 1}} {
		for short := range 2 { // one more than are wanted, or just these, but then 256 has no length
			wantFault(t, "too many lengths", 9, api.ErrCode, func(s *stream) int {
				s.head(29, 29, 15, lengthBook())
				s.symbols(lengthBook(), slices.Repeat([]int{0}, 316-x.wanted-short)...)
				tell(s, x.symbol, x.more)
				taken := s.n
				s.put(0, 32)
				return taken
			})
		}
	}
	wantFault(t, "256 has no code, ahead of what the tables are", 9, api.ErrCode, func(s *stream) int {
		s.dynamic(map[int]int{0: 1, 1: 1, 2: 1, 257: 1}, map[int]int{0: 1, 1: 1, 2: 1})
		taken := s.n
		s.put(0, 32)
		return taken
	})
}

func TestKind2TableFaults(t *testing.T) {
	for _, x := range []struct {
		name                string
		literals, distances map[int]int
		code                api.Errno
	}{
		{"literals over", map[int]int{0: 1, 1: 1, 256: 1}, nil, api.ErrOver},
		{"literals under", map[int]int{0: 1, 256: 2}, nil, api.ErrUnder},
		{"256 alone, of two bits", map[int]int{256: 2}, nil, api.ErrUnder},
		{"distances over", map[int]int{256: 1}, map[int]int{0: 1, 1: 2, 2: 2, 29: 15}, api.ErrOver},
		{"distances under", map[int]int{256: 1}, map[int]int{0: 1, 1: 2}, api.ErrUnder},
		{"one distance, of two bits", map[int]int{256: 1}, map[int]int{0: 2}, api.ErrUnder},
		{"literals over, ahead of distances under", map[int]int{0: 1, 1: 1, 256: 1}, map[int]int{0: 2}, api.ErrOver},
		{"literals under, ahead of distances over", map[int]int{256: 15}, map[int]int{0: 1, 1: 1, 2: 1}, api.ErrUnder},
	} {
		wantFault(t, x.name, 9, x.code, func(s *stream) int {
			s.dynamic(x.literals, x.distances)
			taken := s.n
			s.put(0, 32)
			return taken
		})
	}
}

func TestKind2SymbolFaults(t *testing.T) {
	wantFault(t, "no code of a literal", 9, api.ErrCode, func(s *stream) int {
		s.dynamic(map[int]int{256: 1}, nil)
		taken := s.n
		s.put(1, 1)
		return taken
	})
	wantFault(t, "no distances", 1, api.ErrCode, func(s *stream) int {
		l, _ := s.dynamic(map[int]int{'a': 1, 256: 2, 266: 2}, nil)
		s.symbols(l, 'a', 266)
		s.put(1, 1)
		return s.n
	})
	wantFault(t, "no code of a distance", 1, api.ErrCode, func(s *stream) int {
		l, _ := s.dynamic(map[int]int{'a': 1, 256: 2, 257: 2}, map[int]int{3: 1})
		s.symbols(l, 'a', 257)
		taken := s.n
		s.put(1, 1)
		return taken
	})
}

func TestKind2IsCutOff(t *testing.T) {
	wantCut(t, "kind 2", func(s *stream) []int {
		ends := []int{s.n + 1, s.n + 3, s.n + 8, s.n + 13, s.n + 17}
		for i := range 19 {
			ends = append(ends, s.n+17+3*(i+1))
		}
		part := func() { ends = append(ends, s.n) }
		rows := func(symbol, more int) {
			s.symbols(lengthBook(), symbol)
			part()
			s.put(more, map[int]int{16: 2, 17: 3, 18: 7}[symbol])
			part()
		}
		s.head(29, 29, 15, lengthBook())
		rows(8, 0)
		for range 50 {
			rows(16, 2) // up to the symbol 250: 251 of eight bits
		}
		rows(17, 1)  // up to 254
		rows(8, 0)   // of 255
		rows(8, 0)   // of 256
		rows(18, 15) // up to 282
		rows(7, 0)   // of 283
		rows(0, 0)
		rows(8, 0) // of 285
		for range 28 {
			rows(5, 0)
		}
		rows(4, 0)
		rows(4, 0)
		l := bookOf(slices.Concat(slices.Repeat([]int{8}, 251), []int{0, 0, 0, 0, 8, 8}, slices.Repeat([]int{0}, 26), []int{7, 0, 8})...)
		d := bookOf(append(slices.Repeat([]int{5}, 28), 4, 4)...)
		for i := range 251 {
			s.symbols(l, i)
			part()
		}
		for range 9 {
			s.symbols(l, 283)
			part()
			s.put(7, 5)
			part()
			s.symbols(d, 14)
			part()
			s.put(61, 6)
			part()
		}
		s.symbols(l, 256)
		part()
		return ends
	})
}
