package inflate

import (
	"slices"
	"strings"
	"testing"

	"ferret/api"
	"ferret/bits"
)

// chance answers numbers from 0 up to below n, the same ones in every run.
type chance uint64

func (c *chance) below(n int) int {
	*c = *c*6364136223846793005 + 1442695040888963407
	return int(uint64(*c) >> 33 % uint64(n))
}

// stream puts blocks, and counts the bits that it has put.
type stream struct {
	bits.Writer
	n int
}

func (s *stream) put(v, n int) {
	s.Put(v, n)
	s.n += n
}

func (s *stream) code(v, n int) {
	s.Code(v, n)
	s.n += n
}

func (s *stream) bytes(text string) {
	s.Bytes(text)
	s.n = (s.n+7)/8*8 + 8*len(text)
}

func (s *stream) block(last, kind int) {
	s.put(last, 1)
	s.put(kind, 2)
}

// fixed puts symbols by kind 1's codes, as RFC 1951 tells them (3.2.6).
func (s *stream) fixed(symbols ...int) {
	for _, symbol := range symbols {
		switch {
		case symbol < 144:
			s.code(0x30+symbol, 8)
		case symbol < 256:
			s.code(0x190+symbol-144, 9)
		case symbol < 280:
			s.code(symbol-256, 7)
		default:
			s.code(0xC0+symbol-280, 8)
		}
	}
}

// book puts symbols by codes of such lengths.
type book struct{ lengths, codes []int }

// bookOf gives the codes one behind the other, as layer 2's chapter says.
func bookOf(lengths ...int) book {
	b := book{lengths, make([]int, len(lengths))}
	next, last := 0, 0
	for n := 1; n <= 15; n++ {
		for symbol, length := range lengths {
			if length == n {
				next <<= n - last
				b.codes[symbol], last = next, n
				next++
			}
		}
	}
	return b
}

func (s *stream) symbols(b book, symbols ...int) {
	for _, x := range symbols {
		s.code(b.codes[x], b.lengths[x])
	}
}

// headOrder is that of the lengths of the lengths' symbols (RFC 1951, 3.2.7).
var headOrder = []int{16, 17, 18, 0, 8, 7, 9, 6, 10, 5, 11, 4, 12, 3, 13, 2, 14, 1, 15}

// lengthBook has a code for each of the lengths' symbols: 13 of four bits, 6 of five.
func lengthBook() book {
	return bookOf(append(slices.Repeat([]int{4}, 13), slices.Repeat([]int{5}, 6)...)...)
}

// head begins a last block of kind 2, up to its lengths.
func (s *stream) head(l, d, c int, b book) {
	s.block(1, 2)
	s.put(l, 5)
	s.put(d, 5)
	s.put(c, 4)
	for _, symbol := range headOrder[:c+4] {
		s.put(b.lengths[symbol], 3)
	}
}

// lengthsOf: a list of at least so many, 0 but for those named.
func lengthsOf(least int, named map[int]int) []int {
	list := make([]int, least)
	for symbol, n := range named {
		for len(list) <= symbol {
			list = append(list, 0)
		}
		list[symbol] = n
	}
	return list
}

// dynamic begins a last block of kind 2 with such lengths of codes: all of its head.
func (s *stream) dynamic(literals, distances map[int]int) (book, book) {
	l, d := lengthsOf(257, literals), lengthsOf(1, distances)
	s.head(len(l)-257, len(d)-1, 15, lengthBook())
	s.symbols(lengthBook(), l...)
	s.symbols(lengthBook(), d...)
	return bookOf(l...), bookOf(d...)
}

// eachShift builds a stream behind a block of 10, 19 .. 73 bits and as many bytes, so that a bit too many or too few that was taken is told by a place somewhere.
func eachShift(build func(s *stream, ahead int)) {
	for ahead := range 8 {
		s := &stream{}
		s.block(0, 1)
		s.fixed(slices.Repeat([]int{200}, ahead)...)
		s.fixed(256)
		build(s, ahead)
	}
}

// wantGood checks an answer without a Fault: what build puts unpacks to want, with just as many bytes allowed, and all of it is taken, whatever stands ahead and behind.
func wantGood(t *testing.T, name, want string, build func(s *stream)) {
	t.Helper()
	eachShift(func(s *stream, ahead int) {
		t.Helper()
		build(s)
		all := strings.Repeat("\xc8", ahead) + want
		end := (s.n + 7) / 8
		for _, behind := range []string{"", "\x00", "\xff\xff"} {
			data := s.All() + behind
			if x, n, f := Unpack(data, 0, len(all)); x != all || n != end || f != (api.Fault{}) {
				t.Errorf("%s: %q, %d, %v, want %q, %d", name, x, n, f, all, end)
			}
		}
		if x, n, f := Unpack("xyz"+s.All(), 3, len(all)+9); x != all || n != 3+end || f != (api.Fault{}) {
			t.Errorf("%s, from 3 on: %q, %d, %v, want %q, %d", name, x, n, f, all, 3+end)
		}
	})
}

// wantFault checks a Fault, and that nothing is told beside it: build puts a stream and answers how many of its bits are taken.
func wantFault(t *testing.T, name string, most int, want api.Errno, build func(s *stream) int) {
	t.Helper()
	eachShift(func(s *stream, ahead int) {
		t.Helper()
		taken := build(s)
		for _, from := range []int{0, 3} {
			fault := api.Fault{Code: want, At: from + taken/8}
			if x, n, f := Unpack("xyz"[:from]+s.All(), from, ahead+most); x != "" || n != 0 || f != fault {
				t.Errorf("%s, behind %d bytes: %q, %d, %v, want %v", name, ahead, x, n, f, fault)
			}
		}
	})
}

// wantCut checks that a stream that is cut off, wherever it is, ends in ErrEnd; of the bits that are there the whole parts are taken. build puts a stream and answers how many bits were taken at each part's end.
func wantCut(t *testing.T, name string, build func(s *stream) []int) {
	t.Helper()
	eachShift(func(s *stream, ahead int) {
		t.Helper()
		first := s.n
		ends := append([]int{first}, build(s)...)
		data := s.All()
		for cut := (first + 7) / 8; cut < (ends[len(ends)-1]+7)/8; cut++ {
			taken := first
			for _, end := range ends {
				if end <= 8*cut {
					taken = end
				}
			}
			want := api.Fault{Code: api.ErrEnd, At: taken / 8}
			if x, n, f := Unpack(data[:cut], 0, 9999); x != "" || n != 0 || f != want {
				t.Errorf("%s, behind %d bytes, cut off at %d: %q, %d, %v, want %v", name, ahead, cut, x, n, f, want)
			}
		}
	})
}
