package huff

import (
	"math"
	"slices"
	"testing"

	"ferret/api"
	"ferret/bits"
)

// chance answers numbers from 0 up to below n, the same ones in every run.
type chance uint64

func (c *chance) below(n int) int {
	*c = *c*6364136223846793005 + 1442695040888963407
	return int(uint64(*c) >> 33 % uint64(n))
}

func table(t *testing.T, lengths []int) *Table {
	t.Helper()
	x, err := New(lengths)
	if err != api.OK || x == nil {
		t.Fatalf("New(%v): %v, %d", lengths, x, err)
	}
	return x
}

func repeated(n, times int) []int {
	return slices.Repeat([]int{n}, times)
}

// staircase has a code of each length up to the longest, and two of that.
func staircase() []int {
	lengths := []int{longest}
	for n := longest; n > 0; n-- {
		lengths = append(lengths, n)
	}
	return lengths
}

// someLengths takes just all the room: a leaf is split till there are enough; some symbols have no code.
func someLengths(c *chance) []int {
	leaves := []int{1, 1}
	for range c.below(300) {
		i := c.below(len(leaves))
		if c.below(2) == 0 { // go for the long ones
			i = len(leaves) - 1
		}
		if leaves[i] < longest {
			leaves[i]++
			leaves = append(leaves, leaves[i])
		}
	}
	for range c.below(20) {
		leaves = append(leaves, 0)
	}
	for i := range leaves {
		k := i + c.below(len(leaves)-i)
		leaves[i], leaves[k] = leaves[k], leaves[i]
	}
	return leaves
}

// plainCodes gives the codes by the document's words alone: one behind the other.
func plainCodes(lengths []int) []int {
	codes := make([]int, len(lengths))
	code, last := -1, 0
	for n := 1; n <= longest; n++ {
		for symbol, length := range lengths {
			if length != n {
				continue
			}
			if last == 0 {
				code = 0
			} else {
				code = (code + 1) << (n - last)
			}
			codes[symbol], last = code, n
		}
	}
	return codes
}

// P2.1: New's errors

func TestNewErrors(t *testing.T) {
	with := func(lengths []int, n int) []int { return append(slices.Clone(lengths), n) }
	for _, x := range []struct {
		name    string
		lengths []int
		want    api.Errno
	}{
		{"below 0", []int{1, -1, 1}, api.ErrArg},
		{"far below 0", []int{math.MinInt}, api.ErrArg},
		{"above 15", []int{1, 1, 16}, api.ErrArg},
		{"far above 15", []int{math.MaxInt}, api.ErrArg},
		{"1025 symbols", repeated(0, 1025), api.ErrArg},
		{"1025 codes", with(repeated(10, 1024), 0), api.ErrArg},
		{"too many, ahead of too much room", repeated(1, 1025), api.ErrArg},
		{"a wrong one behind too much room", []int{1, 1, 1, 16}, api.ErrArg},
		{"three of one bit", []int{1, 1, 1}, api.ErrOver},
		{"one of the longest too many", with(staircase(), 15), api.ErrOver},
		{"1024 of one bit", repeated(1, 1024), api.ErrOver},
		{"one wanting of the longest", staircase()[1:], api.ErrUnder},
		{"one of two bits", []int{2}, api.ErrUnder},
		{"one of fifteen bits", []int{0, 15}, api.ErrUnder},
		{"two, one wanting", []int{1, 2}, api.ErrUnder},
		{"1023 of ten bits", repeated(10, 1023), api.ErrUnder},
	} {
		if got, err := New(x.lengths); got != nil || err != x.want {
			t.Errorf("%s: %v, %d, want %d", x.name, got, err, x.want)
		}
	}
}

func TestNewTakes(t *testing.T) {
	for _, lengths := range [][]int{nil, {}, {0}, repeated(0, 1024), {1}, {0, 0, 1, 0}, {1, 1}, {2, 1, 3, 3}, repeated(10, 1024), staircase(), append(repeated(0, 1022), 1, 1)} {
		table(t, lengths)
	}
}

// P2.1: Codes

func TestCodes(t *testing.T) {
	for _, x := range []struct{ lengths, want []int }{
		{nil, nil},
		{[]int{0, 0}, []int{0, 0}},
		{[]int{0, 1}, []int{0, 0}},
		{[]int{1, 0, 1}, []int{0, 0, 1}},
		{[]int{2, 1, 3, 3}, []int{2, 0, 6, 7}},
		{[]int{3, 3, 3, 3, 3, 2, 4, 4}, []int{2, 3, 4, 5, 6, 0, 14, 15}}, // RFC 1951, 3.2.2
		{[]int{1, 4, 4, 4, 4, 4, 4, 4, 4}, []int{0, 8, 9, 10, 11, 12, 13, 14, 15}},
	} {
		if got := table(t, x.lengths).Codes(); !slices.Equal(got, x.want) {
			t.Errorf("%v: %v, want %v", x.lengths, got, x.want)
		}
	}
	last := table(t, staircase()).Codes()
	if last[0] != 1<<15-2 || last[1] != 1<<15-1 || last[15] != 0 {
		t.Errorf("the staircase: %v", last)
	}
}

func TestCodesOneBehindTheOther(t *testing.T) {
	c := chance(1)
	for range 200 {
		lengths := someLengths(&c)
		if got := table(t, lengths).Codes(); !slices.Equal(got, plainCodes(lengths)) {
			t.Fatalf("%v: %v", lengths, got)
		}
	}
}

func TestCodesAreNewMemory(t *testing.T) {
	lengths := []int{2, 1, 3, 3, 9, 9}
	x := table(t, lengths[:4])
	if !slices.Equal(lengths, []int{2, 1, 3, 3, 9, 9}) {
		t.Errorf("lengths are changed: %v", lengths)
	}
	lengths[0] = 7
	first := x.Codes()
	first[0], first[1] = 99, 99
	if got := x.Codes(); !slices.Equal(got, []int{2, 0, 6, 7}) {
		t.Errorf("%v", got)
	}
	if s, err := x.Next(bits.Open("\x01")); s != 0 || err != api.OK {
		t.Errorf("Next: %d, %d", s, err)
	}
}

// P2.2

func TestNext(t *testing.T) {
	x := table(t, []int{2, 1, 3, 3})
	r := bits.Open("\x1d\x03") // 10 111 0 0 0, 110 0 0 0 0 0
	for i, want := range []int{0, 3, 1, 1, 1, 2, 1, 1, 1, 1, 1} {
		if s, err := x.Next(r); s != want || err != api.OK {
			t.Errorf("symbol %d: %d, %d, want %d", i, s, err, want)
		}
	}
	if s, err := x.Next(r); s != 0 || err != api.ErrEnd || r.Taken() != 16 {
		t.Errorf("behind the last: %d, %d, %d taken", s, err, r.Taken())
	}
}

func TestNextTakesNothingAtTheEnd(t *testing.T) {
	x := table(t, []int{2, 1, 3, 3})
	for _, ahead := range []int{6, 7} { // 11 and 1 are left, both the beginning of a code
		r := bits.Open("\xff")
		r.Take(ahead)
		if s, err := x.Next(r); s != 0 || err != api.ErrEnd || r.Taken() != ahead {
			t.Errorf("behind %d bits: %d, %d, %d taken", ahead, s, err, r.Taken())
		}
	}
}

func TestNextOfOneCode(t *testing.T) {
	x := table(t, []int{0, 0, 1})
	r := bits.Open("\x02")
	if s, err := x.Next(r); s != 2 || err != api.OK || r.Taken() != 1 {
		t.Errorf("its code: %d, %d, %d taken", s, err, r.Taken())
	}
	if s, err := x.Next(r); s != 0 || err != api.ErrCode || r.Taken() != 1 {
		t.Errorf("none's code: %d, %d, %d taken", s, err, r.Taken())
	}
	r = bits.Open("\x80")
	r.Take(7)
	if s, err := x.Next(r); s != 0 || err != api.ErrCode || r.Taken() != 7 {
		t.Errorf("none's code, the last bit: %d, %d, %d taken", s, err, r.Taken())
	}
	if s, err := x.Next(bits.Open("")); s != 0 || err != api.ErrEnd {
		t.Errorf("no bits: %d, %d", s, err)
	}
}

func TestNextWithoutCodes(t *testing.T) {
	for _, lengths := range [][]int{nil, {}, {0, 0, 0}} {
		for _, s := range []string{"", "\x00", "\xff\xff\xff"} {
			r := bits.Open(s)
			if v, err := table(t, lengths).Next(r); v != 0 || err != api.ErrCode || r.Taken() != 0 {
				t.Errorf("%v, %x: %d, %d, %d taken", lengths, s, v, err, r.Taken())
			}
		}
	}
}

func TestNil(t *testing.T) {
	var none *Table
	if c := none.Codes(); len(c) != 0 {
		t.Errorf("Codes: %v", c)
	}
	r := bits.Open("ab")
	if s, err := none.Next(r); s != 0 || err != api.ErrArg || r.Taken() != 0 {
		t.Errorf("Next: %d, %d", s, err)
	}
	if s, err := none.Next(nil); s != 0 || err != api.ErrArg {
		t.Errorf("Next of nothing: %d, %d", s, err)
	}
	for _, lengths := range [][]int{{2, 1, 3, 3}, {1}, nil} {
		if s, err := table(t, lengths).Next(nil); s != 0 || err != api.ErrArg {
			t.Errorf("%v: Next of a nil reader: %d, %d", lengths, s, err)
		}
	}
}

// checkEach asks for every code of a table, behind some bits, whole and cut off at every bit.
func checkEach(t *testing.T, lengths []int) {
	t.Helper()
	x := table(t, lengths)
	for symbol, code := range plainCodes(lengths) {
		n := lengths[symbol]
		for cut := range n {
			var w bits.Writer
			ahead := 8 - cut%8 // so that the code's part ends a byte
			w.Put(-1, ahead)
			w.Code(code>>(n-cut), cut)
			r := bits.Open(w.All())
			r.Take(ahead)
			if s, err := x.Next(r); s != 0 || err != api.ErrEnd || r.Taken() != ahead {
				t.Fatalf("%v: symbol %d, %d bits of it: %d, %d, %d taken", lengths, symbol, cut, s, err, r.Taken())
			}
		}
		for _, behind := range []int{0, -1} {
			var w bits.Writer
			w.Code(code, n)
			w.Put(behind, (32-n)%8)
			r := bits.Open(w.All())
			if s, err := x.Next(r); n > 0 && (s != symbol || err != api.OK || r.Taken() != n) {
				t.Fatalf("%v: symbol %d: %d, %d, %d taken", lengths, symbol, s, err, r.Taken())
			}
		}
	}
}

func TestNextOfEachCode(t *testing.T) {
	checkEach(t, []int{1, 1})
	checkEach(t, repeated(10, 1024))
	checkEach(t, staircase())
	even := make([]bool, 1000)
	for i := range even {
		even[i] = i%3 > 0
	}
	checkEach(t, Even(even))
	c := chance(2)
	for range 60 {
		checkEach(t, someLengths(&c))
	}
}

// Codes that are looked up in two rows and in three: each link to a further row must hold, however the list of rows grows while they are laid.
func TestNextOfLongCodes(t *testing.T) {
	checkEach(t, repeated(6, 64))
	checkEach(t, repeated(7, 128))
	checkEach(t, append([]int{1, 2}, repeated(11, 512)...))
	checkEach(t, append(repeated(11, 512), 2, 1))
	checkEach(t, append(repeated(15, 512), 1, 2, 3, 4, 5, 6))
	checkEach(t, slices.Concat(repeated(15, 256), repeated(6, 62), repeated(7, 2), repeated(11, 16)))
}

func TestNextOfSixBitsOfNought(t *testing.T) {
	r := bits.Open("\x00")
	if s, err := table(t, repeated(6, 64)).Next(r); s != 0 || err != api.OK || r.Taken() != 6 {
		t.Errorf("%d, %d, %d taken", s, err, r.Taken())
	}
}

func TestNextOfRows(t *testing.T) {
	c := chance(3)
	for range 100 {
		lengths := someLengths(&c)
		x := table(t, lengths)
		codes := x.Codes()
		var w bits.Writer
		var row []int
		for range 200 {
			s := c.below(len(lengths))
			if lengths[s] > 0 {
				w.Code(codes[s], lengths[s])
				row = append(row, s)
			}
		}
		r := bits.Open(w.All())
		for i, want := range row {
			if s, err := x.Next(r); s != want || err != api.OK {
				t.Fatalf("%v: symbol %d: %d, %d, want %d", lengths, i, s, err, want)
			}
		}
	}
}

// P2.3

func allUsed(m int) []bool {
	return slices.Repeat([]bool{true}, m)
}

func TestEven(t *testing.T) {
	for _, x := range []struct {
		used []bool
		want []int
	}{
		{nil, nil},
		{[]bool{false, false}, []int{0, 0}},
		{[]bool{false, true, false}, []int{0, 1, 0}},
		{[]bool{true, false, true}, []int{1, 0, 1}},
		{[]bool{true, false, true, true}, []int{1, 0, 2, 2}},
		{allUsed(4), []int{2, 2, 2, 2}},
		{allUsed(5), []int{2, 2, 2, 3, 3}},
		{allUsed(7), []int{2, 3, 3, 3, 3, 3, 3}},
		{allUsed(8), []int{3, 3, 3, 3, 3, 3, 3, 3}},
	} {
		used := slices.Clone(x.used)
		if got := Even(used); !slices.Equal(got, x.want) {
			t.Errorf("%v: %v, want %v", x.used, got, x.want)
		}
		if !slices.Equal(used, x.used) {
			t.Errorf("%v is changed: %v", x.used, used)
		}
	}
}

func TestEvenOfMany(t *testing.T) {
	if got := Even(allUsed(1 << 15)); !slices.Equal(got, repeated(15, 1<<15)) {
		t.Error("2^15 symbols")
	}
	if got := Even(allUsed(1<<15 + 1)); !slices.Equal(got, repeated(0, 1<<15+1)) {
		t.Error("more than 2^15 symbols")
	}
	almost := append(allUsed(1<<15), false, false)
	if got := Even(almost); !slices.Equal(got, append(repeated(15, 1<<15), 0, 0)) {
		t.Error("2^15 symbols that are used, and two that aren't")
	}
	few := Even(allUsed(1<<15 - 1))
	if few[0] != 14 || few[1] != 15 || few[1<<15-2] != 15 {
		t.Errorf("2^15 - 1 symbols: %d, %d", few[0], few[1])
	}
}

func TestEvenTakesAllTheRoom(t *testing.T) {
	for m := 1; m <= 1024; m++ {
		lengths := Even(allUsed(m))
		table(t, lengths)
		if !slices.IsSorted(lengths) || lengths[m-1]-lengths[0] > 1 {
			t.Fatalf("%d symbols: %v", m, lengths)
		}
	}
}
