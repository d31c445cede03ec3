package bits

import (
	"math"
	"strings"
	"testing"

	"ferret/api"
)

// wrongCounts are numbers of bits that no call takes.
var wrongCounts = []int{-1, 33, 64, -64, math.MinInt, math.MaxInt}

// chance answers numbers from 0 up to below n, the same ones in every run.
type chance uint64

func (c *chance) below(n int) int {
	*c = *c*6364136223846793005 + 1442695040888963407
	return int(uint64(*c) >> 33 % uint64(n))
}

// bitsOf tells the bits of bytes one by one: what the calls are held against.
func bitsOf(s string) []int {
	var all []int
	for i := range len(s) {
		for k := range 8 {
			all = append(all, int(s[i])>>k&1)
		}
	}
	return all
}

func number(row []int) int {
	v := 0
	for i, b := range row {
		v += b << i
	}
	return v
}

func bytesOf(row []int) string {
	s := make([]byte, (len(row)+7)/8)
	for i, b := range row {
		s[i/8] |= byte(b << (i % 8))
	}
	return string(s)
}

func someText(c *chance, n int) string {
	s := make([]byte, n)
	for i := range s {
		s[i] = byte(c.below(256))
	}
	return string(s)
}

// P1.1: Open

func TestOpenTakesNothing(t *testing.T) {
	for _, s := range []string{"", "a", "\x00\xff", strings.Repeat("x", 1000)} {
		r := Open(s)
		if r == nil {
			t.Fatalf("Open(%q) is nil", s)
		}
		if r.Taken() != 0 || r.Left() != 8*len(s) {
			t.Errorf("Open(%q): %d taken, %d left", s, r.Taken(), r.Left())
		}
	}
}

func TestReadersOfOneText(t *testing.T) {
	a, b := Open("ab"), Open("ab")
	a.Take(5)
	if b.Taken() != 0 || a.Taken() != 5 {
		t.Errorf("%d, %d taken", a.Taken(), b.Taken())
	}
}

// P1.1: Take

func TestTake(t *testing.T) {
	r := Open("\x15\xa7\x01\x80\xff")
	for _, x := range []struct{ n, want int }{{1, 1}, {2, 2}, {0, 0}, {2, 2}, {3, 0}, {9, 0x1a7}, {15, 0x4000}, {8, 0xff}, {0, 0}} {
		if v, err := r.Take(x.n); v != x.want || err != api.OK {
			t.Errorf("Take(%d): %x, %d, want %x", x.n, v, err, x.want)
		}
	}
	if r.Left() != 0 || r.Taken() != 40 {
		t.Errorf("%d taken, %d left", r.Taken(), r.Left())
	}
}

func TestTakeMost(t *testing.T) {
	r := Open("\xff\xff\xff\xff\xff")
	r.Take(7)
	if v, err := r.Take(32); v != math.MaxUint32 || err != api.OK {
		t.Errorf("%x, %d", v, err)
	}
	if v, err := r.Take(1); v != 1 || err != api.OK {
		t.Errorf("the last bit: %x, %d", v, err)
	}
}

func TestTakeWrongCount(t *testing.T) {
	for _, s := range []string{"", "abcdefghij"} {
		for _, n := range wrongCounts {
			r := Open(s)
			if v, err := r.Take(n); v != 0 || err != api.ErrArg || r.Taken() != 0 {
				t.Errorf("%q: Take(%d): %d, %d, %d taken", s, n, v, err, r.Taken())
			}
		}
	}
}

func TestTakeBeyondTheEnd(t *testing.T) {
	r := Open("\xff\xff")
	r.Take(3)
	for _, n := range []int{14, 20, 32} {
		if v, err := r.Take(n); v != 0 || err != api.ErrEnd || r.Taken() != 3 {
			t.Errorf("Take(%d): %d, %d, %d taken", n, v, err, r.Taken())
		}
	}
	if v, err := r.Take(13); v != 1<<13-1 || err != api.OK {
		t.Errorf("all that is left: %d, %d", v, err)
	}
	if _, err := r.Take(1); err != api.ErrEnd {
		t.Errorf("behind the end: %d", err)
	}
	if v, err := r.Take(0); v != 0 || err != api.OK {
		t.Errorf("no bit behind the end: %d, %d", v, err)
	}
}

// P1.1: Peek

func TestPeek(t *testing.T) {
	r := Open("\x15\xa7")
	r.Take(3)
	for _, x := range []struct{ n, want, there int }{{0, 0, 0}, {1, 0, 1}, {2, 2, 2}, {5, 2, 5}, {6, 0x22, 6}, {13, 0x14e2, 13}, {14, 0x14e2, 13}, {32, 0x14e2, 13}} {
		if v, there := r.Peek(x.n); v != x.want || there != x.there {
			t.Errorf("Peek(%d): %x, %d, want %x, %d", x.n, v, there, x.want, x.there)
		}
		if r.Taken() != 3 {
			t.Fatalf("Peek(%d) takes", x.n)
		}
	}
}

func TestPeekWrongCount(t *testing.T) {
	r := Open("\xff\xff\xff\xff\xff\xff\xff\xff\xff")
	for _, n := range wrongCounts {
		if v, there := r.Peek(n); v != 0 || there != 0 || r.Taken() != 0 {
			t.Errorf("Peek(%d): %d, %d", n, v, there)
		}
	}
}

func TestPeekAtTheEnd(t *testing.T) {
	r := Open("\xff")
	r.Take(8)
	if v, there := r.Peek(32); v != 0 || there != 0 {
		t.Errorf("%d, %d", v, there)
	}
	if v, there := Open("").Peek(7); v != 0 || there != 0 {
		t.Errorf("nothing at all: %d, %d", v, there)
	}
}

// P1.1: Bytes

func TestBytesFromTheNextWholeByte(t *testing.T) {
	for taken := range 17 {
		for n := range 4 {
			r := Open("abcd")
			r.Take(taken)
			from := (taken + 7) / 8
			s, err := r.Bytes(n)
			if from+n > 4 {
				if s != "" || err != api.ErrEnd || r.Taken() != taken {
					t.Errorf("Bytes(%d) behind %d bits: %q, %d, %d taken", n, taken, s, err, r.Taken())
				}
				continue
			}
			if s != "abcd"[from:from+n] || err != api.OK || r.Taken() != 8*(from+n) {
				t.Errorf("Bytes(%d) behind %d bits: %q, %d, %d taken", n, taken, s, err, r.Taken())
			}
		}
	}
}

func TestBytesWrongCount(t *testing.T) {
	r := Open("abcd")
	r.Take(1)
	for _, n := range []int{-1, -8, math.MinInt} {
		if s, err := r.Bytes(n); s != "" || err != api.ErrArg || r.Taken() != 1 {
			t.Errorf("Bytes(%d): %q, %d, %d taken", n, s, err, r.Taken())
		}
	}
	for _, n := range []int{4, 5, math.MaxInt - 7, math.MaxInt} {
		if s, err := r.Bytes(n); s != "" || err != api.ErrEnd || r.Taken() != 1 {
			t.Errorf("Bytes(%d): %q, %d, %d taken", n, s, err, r.Taken())
		}
	}
	r.Bytes(3)
	if s, err := r.Bytes(0); s != "" || err != api.OK || r.Left() != 0 {
		t.Errorf("no bytes at the end: %q, %d", s, err)
	}
	if _, err := r.Bytes(1); err != api.ErrEnd {
		t.Errorf("a byte behind the end: %d", err)
	}
}

// P1.2: Taken and Left

func TestTakenAndLeft(t *testing.T) {
	r := Open("abc")
	r.Take(5)
	if r.Taken() != 5 || r.Left() != 19 {
		t.Errorf("%d taken, %d left", r.Taken(), r.Left())
	}
	r.Bytes(1) // with the three bits ahead of it
	if r.Taken() != 16 || r.Left() != 8 {
		t.Errorf("%d taken, %d left", r.Taken(), r.Left())
	}
}

// P1.2: nil readers

func TestNilReader(t *testing.T) {
	var r *Reader
	for _, n := range append([]int{0, 1, 32}, wrongCounts...) {
		if v, err := r.Take(n); v != 0 || err != api.ErrArg {
			t.Errorf("Take(%d): %d, %d", n, v, err)
		}
		if s, err := r.Bytes(n); s != "" || err != api.ErrArg {
			t.Errorf("Bytes(%d): %q, %d", n, s, err)
		}
		if v, there := r.Peek(n); v != 0 || there != 0 {
			t.Errorf("Peek(%d): %d, %d", n, v, there)
		}
	}
	if r.Taken() != 0 || r.Left() != 0 {
		t.Errorf("%d taken, %d left", r.Taken(), r.Left())
	}
}

// P1.1, P1.2: any row of calls, held against the bits one by one

func TestReaderAgainstSingleBits(t *testing.T) {
	c := chance(1)
	for range 300 {
		s := someText(&c, c.below(24))
		all, at := bitsOf(s), 0
		r := Open(s)
		for range 20 {
			n := c.below(33)
			there := min(n, len(all)-at)
			if v, k := r.Peek(n); v != number(all[at:at+there]) || k != there {
				t.Fatalf("%q at %d: Peek(%d): %x, %d", s, at, n, v, k)
			}
			if v, err := r.Take(n); there == n {
				if v != number(all[at:at+n]) || err != api.OK {
					t.Fatalf("%q at %d: Take(%d): %x, %d", s, at, n, v, err)
				}
				at += n
			} else if v != 0 || err != api.ErrEnd {
				t.Fatalf("%q at %d: Take(%d): %x, %d", s, at, n, v, err)
			}
			if r.Taken() != at || r.Left() != len(all)-at {
				t.Fatalf("%q: %d taken, %d left, want %d, %d", s, r.Taken(), r.Left(), at, len(all)-at)
			}
		}
	}
}

// P1.3

func TestWriterExample(t *testing.T) {
	var w Writer
	w.Put(1, 1)
	w.Put(2, 2)
	w.Code(1, 2)
	if w.All() != "\x15" {
		t.Errorf("%x", w.All())
	}
}

func TestWriterIsEmpty(t *testing.T) {
	var w Writer
	if w.All() != "" {
		t.Errorf("%x", w.All())
	}
	w.Put(7, 0)
	w.Code(7, 0)
	w.Bytes("")
	if w.All() != "" {
		t.Errorf("no bits: %x", w.All())
	}
}

func TestPutAndCode(t *testing.T) {
	for _, x := range []struct {
		v, n      int
		put, code string
	}{
		{6, 3, "\x06", "\x03"},
		{1, 15, "\x01\x00", "\x00\x40"},
		{0x12345678, 32, "\x78\x56\x34\x12", "\x48\x2c\x6a\x1e"},
		{0xabc, 4, "\x0c", "\x03"}, // just the lowest ones count
		{-1, 9, "\xff\x01", "\xff\x01"},
		{-2, 3, "\x06", "\x03"},
		{math.MinInt, 32, "\x00\x00\x00\x00", "\x00\x00\x00\x00"},
		{math.MaxInt, 32, "\xff\xff\xff\xff", "\xff\xff\xff\xff"},
	} {
		var p, c Writer
		p.Put(x.v, x.n)
		c.Code(x.v, x.n)
		if p.All() != x.put || c.All() != x.code {
			t.Errorf("%x, %d: Put %x, want %x; Code %x, want %x", x.v, x.n, p.All(), x.put, c.All(), x.code)
		}
	}
}

func TestPutWrongCount(t *testing.T) {
	var w Writer
	w.Put(5, 3)
	for _, n := range wrongCounts {
		w.Put(-1, n)
		w.Code(-1, n)
		if w.All() != "\x05" {
			t.Fatalf("%d bits: %x", n, w.All())
		}
	}
	w.Put(1, 1)
	if w.All() != "\x0d" {
		t.Errorf("behind them: %x", w.All())
	}
}

func TestWriterBytes(t *testing.T) {
	var w Writer
	w.Bytes("a")
	w.Put(1, 1)
	w.Bytes("") // fills up
	w.Put(3, 2)
	w.Bytes("bc")
	w.Bytes("d")
	w.Put(1, 3)
	if w.All() != "a\x01\x03bcd\x01" {
		t.Errorf("%q", w.All())
	}
}

func TestAllStaysOpen(t *testing.T) {
	var w Writer
	w.Put(1, 1)
	first := w.All()
	w.Put(1, 1)
	second := w.All()
	w.Put(0, 6)
	w.Put(1, 1)
	if first != "\x01" || second != "\x03" || w.All() != "\x03\x01" || w.All() != "\x03\x01" {
		t.Errorf("%x, %x, %x", first, second, w.All())
	}
}

func TestNilWriter(t *testing.T) {
	var w *Writer
	w.Put(1, 1)
	w.Put(1, 99)
	w.Code(1, 1)
	w.Code(1, -1)
	w.Bytes("ab")
	if w.All() != "" {
		t.Errorf("%x", w.All())
	}
}

func TestWriterAgainstSingleBits(t *testing.T) {
	c := chance(2)
	for range 300 {
		var w Writer
		var row []int
		for range 20 {
			n, v := c.below(33), c.below(1<<31)*4+c.below(4)-1<<32
			switch c.below(5) {
			case 0:
				s := someText(&c, c.below(4))
				w.Bytes(s)
				row = append(bitsOf(bytesOf(row)), bitsOf(s)...)
			case 1, 2:
				w.Put(v, n)
				for i := range n {
					row = append(row, v>>i&1)
				}
			default:
				w.Code(v, n)
				for i := n - 1; i >= 0; i-- {
					row = append(row, v>>i&1)
				}
			}
			if w.All() != bytesOf(row) {
				t.Fatalf("%x, want %x", w.All(), bytesOf(row))
			}
		}
	}
}

// P1.1, P1.3: what was put is taken again
func TestPutIsTakenAgain(t *testing.T) {
	c := chance(3)
	for range 100 {
		var w Writer
		var values, counts []int
		for range 30 {
			n := c.below(33)
			v := c.below(1<<31) & (1<<n - 1)
			w.Put(v, n)
			values, counts = append(values, v), append(counts, n)
		}
		r := Open(w.All())
		for i, n := range counts {
			if v, err := r.Take(n); v != values[i] || err != api.OK {
				t.Fatalf("Take(%d): %x, %d, want %x", n, v, err, values[i])
			}
		}
		if r.Left() > 7 {
			t.Fatalf("%d bits left", r.Left())
		}
	}
}
