package inflate

import (
	"math"
	"strings"
	"testing"

	"ferret/api"
)

// plenty is more than any test here unpacks.
const plenty = 1 << 20

// P3.1

func TestLength(t *testing.T) {
	// RFC 1951, 3.2.5
	leasts := []int{3, 4, 5, 6, 7, 8, 9, 10, 11, 13, 15, 17, 19, 23, 27, 31, 35, 43, 51, 59, 67, 83, 99, 115, 131, 163, 195, 227, 258}
	more := []int{0, 0, 0, 0, 0, 0, 0, 0, 1, 1, 1, 1, 2, 2, 2, 2, 3, 3, 3, 3, 4, 4, 4, 4, 5, 5, 5, 5, 0}
	for i := range leasts {
		if n, b, ok := Length(257 + i); n != leasts[i] || b != more[i] || !ok {
			t.Errorf("%d: %d, %d, %v", 257+i, n, b, ok)
		}
	}
	for _, symbol := range []int{math.MinInt, -1, 0, 255, 256, 286, 287, 1 << 32, math.MaxInt} {
		if n, b, ok := Length(symbol); n != 0 || b != 0 || ok {
			t.Errorf("%d: %d, %d, %v", symbol, n, b, ok)
		}
	}
}

func TestDistance(t *testing.T) {
	leasts := []int{1, 2, 3, 4, 5, 7, 9, 13, 17, 25, 33, 49, 65, 97, 129, 193, 257, 385, 513, 769, 1025, 1537, 2049, 3073, 4097, 6145, 8193, 12289, 16385, 24577}
	more := []int{0, 0, 0, 0, 1, 1, 2, 2, 3, 3, 4, 4, 5, 5, 6, 6, 7, 7, 8, 8, 9, 9, 10, 10, 11, 11, 12, 12, 13, 13}
	for i := range leasts {
		if n, b, ok := Distance(i); n != leasts[i] || b != more[i] || !ok {
			t.Errorf("%d: %d, %d, %v", i, n, b, ok)
		}
	}
	for _, symbol := range []int{math.MinInt, -1, 30, 31, 1 << 32, math.MaxInt} {
		if n, b, ok := Distance(symbol); n != 0 || b != 0 || ok {
			t.Errorf("%d: %d, %d, %v", symbol, n, b, ok)
		}
	}
}

// P3.2: what is handed in

func TestArguments(t *testing.T) {
	data := "\x01\x02\x00\xfd\xffab"
	for _, x := range []struct {
		name       string
		from, most int
		want       string
		end        int
		fault      api.Fault
	}{
		{"the example", 0, 2, "ab", 7, api.Fault{}},
		{"the greatest most", 0, math.MaxInt, "ab", 7, api.Fault{}},
		{"from below 0", -1, 9, "", 0, api.Fault{Code: api.ErrArg}},
		{"from far below 0", math.MinInt, 9, "", 0, api.Fault{Code: api.ErrArg}},
		{"from behind the end", 8, 9, "", 0, api.Fault{Code: api.ErrArg}},
		{"from far behind the end", math.MaxInt, 9, "", 0, api.Fault{Code: api.ErrArg}},
		{"most below 0", 2, -1, "", 0, api.Fault{Code: api.ErrArg}},
		{"most far below 0", 7, math.MinInt, "", 0, api.Fault{Code: api.ErrArg}},
		{"from the end", 7, 9, "", 0, api.Fault{Code: api.ErrEnd, At: 7}},
	} {
		if s, n, f := Unpack(data, x.from, x.most); s != x.want || n != x.end || f != x.fault {
			t.Errorf("%s: %q, %d, %v", x.name, s, n, f)
		}
	}
	if s, n, f := Unpack("", 0, 0); s != "" || n != 0 || f != (api.Fault{Code: api.ErrEnd}) {
		t.Errorf("nothing: %q, %d, %v", s, n, f)
	}
}

// P3.2: the bits of a block's kind, and kind 3

func TestKind3(t *testing.T) {
	for last := range 2 {
		wantFault(t, "kind 3", 9, api.ErrBlock, func(s *stream) int {
			s.block(last, 3)
			taken := s.n
			s.put(0, 32)
			return taken
		})
	}
}

func TestNoLastBlock(t *testing.T) {
	wantFault(t, "no block, or not its three bits", 9, api.ErrEnd, func(s *stream) int {
		for s.n%8 < 6 && s.n%8 != 0 { // three bits or more of those that fill up the last byte would be another block
			s.block(0, 1)
			s.fixed(256)
		}
		if s.n%8 == 0 {
			return s.n
		}
		return s.n + 1 // whether it is the last block was told
	})
}

// P3.2: kind 0

func TestKind0(t *testing.T) {
	wantGood(t, "empty", "", func(s *stream) {
		s.block(1, 0)
		s.bytes("\x00\x00\xff\xff")
	})
	wantGood(t, "any bits up to the whole byte", "a", func(s *stream) {
		s.block(1, 0)
		for s.n%8 > 0 {
			s.put(1, 1)
		}
		s.bytes("\x01\x00\xfe\xffa")
	})
	wantGood(t, "two blocks", "abc", func(s *stream) {
		s.block(0, 0)
		s.bytes("\x01\x00\xfe\xffa")
		s.block(1, 0)
		s.bytes("\x02\x00\xfd\xffbc")
	})
	long := strings.Repeat("x", 0x1234)
	wantGood(t, "the lower byte first", long, func(s *stream) {
		s.block(1, 0)
		s.bytes("\x34\x12\xcb\xed" + long)
	})
	most := strings.Repeat("y", 0xFFFF)
	wantGood(t, "the greatest", most, func(s *stream) {
		s.block(1, 0)
		s.bytes("\xff\xff\x00\x00" + most)
	})
}

func TestKind0Faults(t *testing.T) {
	for _, x := range []struct {
		name  string
		most  int
		code  api.Errno
		taken string // behind the block's first bits
		rest  string
	}{
		{"no size", 9, api.ErrEnd, "", ""},
		{"half a size", 9, api.ErrEnd, "", "\x02"},
		{"a size alone", 9, api.ErrEnd, "\x02\x00", ""},
		{"half of the other one", 9, api.ErrEnd, "\x02\x00", "\xfd"},
		{"the size itself", 9, api.ErrSize, "\x02\x00\x02\x00", "ab"},
		{"the lower byte wrong", 9, api.ErrSize, "\x02\x00\xfc\xff", "ab"},
		{"the higher byte wrong", 9, api.ErrSize, "\x02\x00\xfd\x7f", "ab"},
		{"no bytes", 9, api.ErrEnd, "\x02\x00\xfd\xff", ""},
		{"too few bytes", 9, api.ErrEnd, "\x02\x00\xfd\xff", "a"},
		{"too long", 1, api.ErrLong, "\x02\x00\xfd\xff", "ab"},
		{"too long, ahead of too few bytes", 1, api.ErrLong, "\x02\x00\xfd\xff", "a"},
		{"a wrong size, ahead of too long", 1, api.ErrSize, "\x02\x00\xfd\xfe", "ab"},
		{"no further block", 9, api.ErrEnd, "\x02\x00\xfd\xffab", ""},
	} {
		wantFault(t, x.name, x.most, x.code, func(s *stream) int {
			s.block(0, 0)
			taken := s.n
			s.bytes(x.taken)
			if x.taken != "" {
				taken = s.n
			}
			s.bytes(x.rest)
			return taken
		})
	}
}

// P3.2: kind 1

func TestKind1EachByte(t *testing.T) {
	all := ""
	for b := range 256 {
		all += string([]byte{byte(b)})
	}
	wantGood(t, "each byte", all, func(s *stream) {
		s.block(1, 1)
		for b := range 256 {
			s.fixed(b)
		}
		s.fixed(256)
	})
}

func TestKind1EachLength(t *testing.T) {
	for symbol := 257; symbol <= 285; symbol++ {
		least, more, _ := Length(symbol)
		for v := range 1 << more {
			want := strings.Repeat("ab", 200)[:2+least+v]
			build := func(s *stream) int {
				s.block(1, 1)
				s.fixed('a', 'b', symbol)
				s.put(v, more)
				s.code(1, 5) // the distance 2
				taken := s.n
				s.fixed(256)
				return taken
			}
			wantGood(t, "a length", want, func(s *stream) { build(s) })
			wantFault(t, "a length, one too many", len(want)-1, api.ErrLong, build)
			wantFault(t, "a length, without room", 2, api.ErrLong, build)
		}
	}
}

func TestKind1EachDistance(t *testing.T) {
	c := chance(1)
	text := make([]byte, 32768)
	for i := range text {
		text[i] = byte(c.below(256))
	}
	for symbol := range 30 {
		least, more, _ := Distance(symbol)
		for _, v := range []int{0, 1<<more - 1, (1<<more - 1) / 3} {
			want := append([]byte{}, text...)
			for range 3 {
				want = append(want, want[len(want)-least-v])
			}
			build := func(s *stream, upTo int) int {
				s.block(0, 0)
				s.bytes(string([]byte{byte(upTo), byte(upTo >> 8), byte(^upTo), byte(^upTo >> 8)}) + string(text[:upTo]))
				s.block(1, 1)
				s.fixed(257)
				s.code(symbol, 5)
				s.put(v, more)
				taken := s.n
				s.fixed(256)
				return taken
			}
			wantGood(t, "a distance", string(want), func(s *stream) { build(s, len(text)) })
			if least+v > 8 { // the bytes that stand ahead of all tests count
				wantFault(t, "a distance, one too far", plenty, api.ErrFar, func(s *stream) int { return build(s, least+v-9) })
			}
		}
	}
}

// farBy puts a block of kind 1 that reaches back one byte farther than there are: those of eachShift and two more.
func farBy(s *stream, more int) int {
	ahead := (s.n - 10) / 9
	s.block(1, 1)
	s.fixed('a', 'b', 257)
	distance := ahead + 2 + more
	symbol := 0
	for symbol < 29 {
		if least, _, _ := Distance(symbol + 1); least > distance {
			break
		}
		symbol++
	}
	least, n, _ := Distance(symbol)
	s.code(symbol, 5)
	s.put(distance-least, n)
	taken := s.n
	s.fixed(256)
	return taken
}

func TestFar(t *testing.T) {
	wantFault(t, "one too far", plenty, api.ErrFar, func(s *stream) int { return farBy(s, 1) })
	wantFault(t, "one too far, ahead of too long", 2, api.ErrFar, func(s *stream) int { return farBy(s, 1) })
	wantFault(t, "not too far, but too long", 4, api.ErrLong, func(s *stream) int { return farBy(s, 0) })
	// what stands ahead of the place isn't unpacked
	block := &stream{}
	block.block(1, 1)
	block.fixed(257)
	block.code(0, 5)
	block.fixed(256)
	if s, n, f := Unpack("abc"+block.All(), 3, 99); s != "" || n != 0 || f != (api.Fault{Code: api.ErrFar, At: 3 + 1}) {
		t.Errorf("%q, %d, %v", s, n, f)
	}
}

func TestKind1ReachesBackOverBlocks(t *testing.T) {
	wantGood(t, "the blocks ahead", "abcdefdefde", func(s *stream) {
		s.block(0, 0)
		s.bytes("\x03\x00\xfc\xffabc")
		s.block(0, 1)
		s.fixed('d', 'e', 'f', 256)
		s.block(1, 1)
		s.fixed(259)
		s.code(2, 5)
		s.fixed(256)
	})
}

func TestKind1Faults(t *testing.T) {
	for _, symbol := range []int{286, 287} {
		for _, most := range []int{1, 99} {
			wantFault(t, "no length", most, api.ErrCode, func(s *stream) int {
				s.block(1, 1)
				s.fixed('a', symbol)
				taken := s.n
				s.put(0, 32)
				return taken
			})
		}
	}
	for _, symbol := range []int{30, 31} {
		for _, most := range []int{1, 99} {
			wantFault(t, "no distance", most, api.ErrCode, func(s *stream) int {
				s.block(1, 1)
				s.fixed('a', 270)
				s.put(0, 2)
				s.code(symbol, 5)
				taken := s.n
				s.put(0, 32)
				return taken
			})
		}
	}
	for most := range 3 {
		wantFault(t, "a byte too many", most, api.ErrLong, func(s *stream) int {
			s.block(1, 1)
			s.fixed('a', 'b', 'c')
			taken := s.n - 8*(2-most)
			s.fixed(256)
			return taken
		})
	}
}

func TestKind1IsCutOff(t *testing.T) {
	wantCut(t, "kind 1", func(s *stream) []int {
		var ends []int
		part := func() { ends = append(ends, s.n) }
		s.put(1, 1)
		part()
		s.put(1, 2)
		part()
		for range 300 {
			s.fixed(255)
			part()
		}
		for range 8 {
			s.fixed(284)
			part()
			s.put(30, 5)
			part()
			s.code(16, 5)
			part()
			s.put(3, 7)
			part()
		}
		s.fixed(256)
		part()
		return ends
	})
}
