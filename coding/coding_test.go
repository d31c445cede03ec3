package coding

import (
	"math"
	"slices"
	"testing"

	"ferret/api"
)

func sameText(a, b Text) bool {
	return a.Coding == b.Coding && a.Bad == b.Bad && slices.Equal(a.Runes, b.Runes) && slices.Equal(a.Places, b.Places)
}

func isZero(x Text) bool {
	return sameText(x, Text{})
}

func TestCodingsHaveTheirNumbers(t *testing.T) {
	if got := [...]int{Auto, UTF8, Little, Big, Latin1}; got != [...]int{0, 1, 2, 3, 4} {
		t.Error(got)
	}
}

func TestSniff(t *testing.T) {
	for _, c := range []struct {
		data         string
		coding, size int
	}{
		{"", UTF8, 0},
		{"a", UTF8, 0},
		{"\xEF\xBB\xBF", UTF8, 3},
		{"\xEF\xBB\xBFa", UTF8, 3},
		{"\xEF\xBB", UTF8, 0},
		{"\xEF\xBB\xBE", UTF8, 0},
		{"\xEF\xBF\xBB", UTF8, 0},
		{"\xFF\xFE", Little, 2},
		{"\xFF\xFE\x00\x00", Little, 2},
		{"\xFF\xFEa", Little, 2},
		{"\xFE\xFF", Big, 2},
		{"\xFE\xFF\xFF\xFE", Big, 2},
		{"\xFF", UTF8, 0},
		{"\xFE", UTF8, 0},
		{"\xFF\xFF", UTF8, 0},
		{"\xFE\xFE", UTF8, 0},
		{"a\xFF\xFE", UTF8, 0},
		{"a\xEF\xBB\xBF", UTF8, 0},
	} {
		if coding, size := Sniff(c.data); coding != c.coding || size != c.size {
			t.Errorf("Sniff(%x) = %d, %d; want %d, %d", c.data, coding, size, c.coding, c.size)
		}
	}
}

func TestDecodeOfNoCoding(t *testing.T) {
	for _, coding := range []int{-1, 5, math.MinInt, math.MaxInt, 256, 1 << 32} {
		for _, data := range []string{"", "a", "\xFF\xFE", "a\xFF"} {
			for _, strict := range []bool{false, true} {
				x, f := Decode(data, coding, strict)
				if f != (api.Fault{Code: api.ErrArg}) || !isZero(x) {
					t.Errorf("Decode(%x, %d, %v) = %v, %v", data, coding, strict, x, f)
				}
			}
		}
	}
}

func TestDecodePassesMarksOver(t *testing.T) {
	const bom = "\xEF\xBB\xBF"
	for _, c := range []struct {
		data         string
		coding, used int
		runes        []int
		places       []int
	}{
		{"", Auto, UTF8, nil, []int{0}},
		{"", UTF8, UTF8, nil, []int{0}},
		{"", Little, Little, nil, []int{0}},
		{"", Big, Big, nil, []int{0}},
		{"", Latin1, Latin1, nil, []int{0}},
		{"a\xC3\xA4", Auto, UTF8, []int{0x61, 0xE4}, []int{0, 1, 3}},
		{bom, Auto, UTF8, nil, []int{3}},
		{bom + "a", Auto, UTF8, []int{'a'}, []int{3, 4}},
		{bom + "a", UTF8, UTF8, []int{'a'}, []int{3, 4}},
		{bom + bom + "a", Auto, UTF8, []int{0xFEFF, 'a'}, []int{3, 6, 7}},
		{bom + bom + "a", UTF8, UTF8, []int{0xFEFF, 'a'}, []int{3, 6, 7}},
		{"a" + bom, UTF8, UTF8, []int{'a', 0xFEFF}, []int{0, 1, 4}},
		{bom + "a", Latin1, Latin1, []int{0xEF, 0xBB, 0xBF, 'a'}, []int{0, 1, 2, 3, 4}},
		{bom + "a", Little, Little, []int{0xBBEF, 0x61BF}, []int{0, 2, 4}},
		{bom + "a", Big, Big, []int{0xEFBB, 0xBF61}, []int{0, 2, 4}},
		{"\xFF\xFE", Auto, Little, nil, []int{2}},
		{"\xFF\xFEa\x00", Auto, Little, []int{'a'}, []int{2, 4}},
		{"\xFF\xFEa\x00", Little, Little, []int{'a'}, []int{2, 4}},
		{"\xFF\xFEa\x00", Big, Big, []int{0xFFFE, 0x6100}, []int{0, 2, 4}},
		{"\xFF\xFEa\x00", Latin1, Latin1, []int{0xFF, 0xFE, 'a', 0}, []int{0, 1, 2, 3, 4}},
		{"\xFF\xFE\xFF\xFEa\x00", Auto, Little, []int{0xFEFF, 'a'}, []int{2, 4, 6}},
		{"\xFF\xFE\xFE\xFF", Auto, Little, []int{0xFFFE}, []int{2, 4}},
		{"\xFE\xFF\x00a", Auto, Big, []int{'a'}, []int{2, 4}},
		{"\xFE\xFF\x00a", Big, Big, []int{'a'}, []int{2, 4}},
		{"\xFE\xFF\x00a", Little, Little, []int{0xFFFE, 0x6100}, []int{0, 2, 4}},
		{"\xFE\xFF\x00a", Latin1, Latin1, []int{0xFE, 0xFF, 0, 'a'}, []int{0, 1, 2, 3, 4}},
		{"\xFE\xFF\xFE\xFF\x00a", Big, Big, []int{0xFEFF, 'a'}, []int{2, 4, 6}},
	} {
		want := Text{Coding: c.used, Runes: c.runes, Places: c.places}
		for _, strict := range []bool{false, true} {
			if x, f := Decode(c.data, c.coding, strict); f != (api.Fault{}) || !sameText(x, want) {
				t.Errorf("Decode(%x, %d, %v) = %v, %v; want %v", c.data, c.coding, strict, x, f, want)
			}
		}
	}
	if x, f := Decode("\xFF\xFE", UTF8, false); f != (api.Fault{}) || x.Bad != 2 {
		t.Errorf("another coding's mark in UTF8: %v, %v", x, f)
	}
}

// R is what stands for a bad one in the rows below; rows have none told by right bytes.
const R = 0xFFFD

func TestDecodeWhatIsBad(t *testing.T) {
	for _, c := range []struct {
		data   string
		coding int
		runes  []int
		places []int
	}{
		// From the Unicode standard: as many bytes as could begin a scalar.
		{"\x61\xF1\x80\x80\xE1\x80\xC2\x62\x80\x63\x80\xBF\x64", UTF8, []int{0x61, R, R, R, 0x62, R, 0x63, R, R, 0x64}, []int{0, 1, 4, 6, 7, 8, 9, 10, 11, 12, 13}},
		{"\xC0\xAF\xE0\x80\xBF\xF0\x81\x82\x41", UTF8, []int{R, R, R, R, R, R, R, R, 0x41}, []int{0, 1, 2, 3, 4, 5, 6, 7, 8, 9}},
		{"\xED\xA0\x80\xED\xBF\xBF\xED\xAF\x41", UTF8, []int{R, R, R, R, R, R, R, R, 0x41}, []int{0, 1, 2, 3, 4, 5, 6, 7, 8, 9}},
		{"\xF4\x91\x92\x93\xFF\x41\x80\xBF\x42", UTF8, []int{R, R, R, R, R, 0x41, R, R, 0x42}, []int{0, 1, 2, 3, 4, 5, 6, 7, 8, 9}},
		{"\xE1\x80\xE2\xF0\x91\x92\xF1\xBF\x41", UTF8, []int{R, R, R, R, 0x41}, []int{0, 2, 3, 6, 8, 9}},
		// The ends of a text.
		{"\xC2", UTF8, []int{R}, []int{0, 1}},
		{"a\xE0", UTF8, []int{'a', R}, []int{0, 1, 2}},
		{"\xE0\xA0", UTF8, []int{R}, []int{0, 2}},
		{"\xED\x9F", UTF8, []int{R}, []int{0, 2}},
		{"\xF0\x90", UTF8, []int{R}, []int{0, 2}},
		{"\xF0\x90\x80", UTF8, []int{R}, []int{0, 3}},
		{"\xF4\x8F\xBF", UTF8, []int{R}, []int{0, 3}},
		{"\xEF\xBB", UTF8, []int{R}, []int{0, 2}},
		{"\xEF\xBB", Auto, []int{R}, []int{0, 2}},
		// One that could go on, and a whole one behind it.
		{"\xE2\x82\xE2\x82\xAC", UTF8, []int{R, 0x20AC}, []int{0, 2, 5}},
		{"\xF0\x9F\x98\xF0\x9F\x98\x80", UTF8, []int{R, 0x1F600}, []int{0, 3, 7}},
		{"\xEF\xBB\xBF\xFF", Auto, []int{R}, []int{3, 4}},
		// Halves alone, and one byte alone.
		{"\x00\xD8", Little, []int{R}, []int{0, 2}},
		{"\xD8\x00", Big, []int{R}, []int{0, 2}},
		{"\xDB\xFF", Big, []int{R}, []int{0, 2}},
		{"\xDC\x00", Big, []int{R}, []int{0, 2}},
		{"\xDF\xFF", Big, []int{R}, []int{0, 2}},
		{"a", Big, []int{R}, []int{0, 1}},
		{"a", Little, []int{R}, []int{0, 1}},
		{"\xFF", Little, []int{R}, []int{0, 1}},
		{"\x00a\x00", Big, []int{'a', R}, []int{0, 2, 3}},
		{"\xD8\x00\xDC", Big, []int{R, R}, []int{0, 2, 3}},
		{"\xD8\x00\x00a", Big, []int{R, 'a'}, []int{0, 2, 4}},
		{"\xD8\x00\xD8\x00\xDC\x00", Big, []int{R, 0x10000}, []int{0, 2, 6}},
		{"\xD8\x00\xDB\xFF", Big, []int{R, R}, []int{0, 2, 4}},
		{"\xD8\x00\xE0\x00", Big, []int{R, 0xE000}, []int{0, 2, 4}},
		{"\xDC\x00\xDC\x00", Big, []int{R, R}, []int{0, 2, 4}},
		{"\xDC\x00\xD8\x00\xDC\x00", Big, []int{R, 0x10000}, []int{0, 2, 6}},
		{"\xFF\xFE\x00\xDC\x61", Auto, []int{R, R}, []int{2, 4, 5}},
		{"\xFE\xFF\xDC\x00\x61", Auto, []int{R, R}, []int{2, 4, 5}},
	} {
		used := c.coding
		if used == Auto {
			used, _ = Sniff(c.data)
		}
		want := Text{Coding: used, Runes: c.runes, Places: c.places}
		first := -1
		for i, r := range c.runes {
			if r == R {
				want.Bad++
				if first < 0 {
					first = c.places[i]
				}
			}
		}
		if x, f := Decode(c.data, c.coding, false); f != (api.Fault{}) || !sameText(x, want) {
			t.Errorf("Decode(%x, %d) = %v, %v; want %v", c.data, c.coding, x, f, want)
		}
		if x, f := Decode(c.data, c.coding, true); f != (api.Fault{Code: api.ErrText, At: first}) || !isZero(x) {
			t.Errorf("Decode(%x, %d), strict = %v, %v; want a fault at %d", c.data, c.coding, x, f, first)
		}
	}
}

func TestWhatStandsForBadIsNotBadItself(t *testing.T) {
	for coding, data := range map[int]string{UTF8: "\xEF\xBF\xBD", Little: "\xFD\xFF", Big: "\xFF\xFD"} {
		x, f := Decode(data, coding, true)
		if f != (api.Fault{}) || x.Bad != 0 || !slices.Equal(x.Runes, []int{R}) {
			t.Errorf("Decode(%x, %d) = %v, %v", data, coding, x, f)
		}
	}
}

func TestDecodeBorders(t *testing.T) {
	for _, c := range []struct {
		utf8, big string
		scalar    int
	}{
		{"\x00", "\x00\x00", 0},
		{"\x7F", "\x00\x7F", 0x7F},
		{"\xC2\x80", "\x00\x80", 0x80},
		{"\xDF\xBF", "\x07\xFF", 0x7FF},
		{"\xE0\xA0\x80", "\x08\x00", 0x800},
		{"\xED\x9F\xBF", "\xD7\xFF", 0xD7FF},
		{"\xEE\x80\x80", "\xE0\x00", 0xE000},
		{"\xEF\xBF\xBF", "\xFF\xFF", 0xFFFF},
		{"\xF0\x90\x80\x80", "\xD8\x00\xDC\x00", 0x10000},
		{"\xF0\x90\x8F\xBF", "\xD8\x00\xDF\xFF", 0x103FF},
		{"\xF0\x90\x90\x80", "\xD8\x01\xDC\x00", 0x10400},
		{"\xF0\x9F\x98\x80", "\xD8\x3D\xDE\x00", 0x1F600},
		{"\xF4\x8F\xBF\xBF", "\xDB\xFF\xDF\xFF", 0x10FFFF},
	} {
		little := ""
		for i := 0; i < len(c.big); i += 2 {
			little += string([]byte{c.big[i+1], c.big[i]})
		}
		for coding, data := range map[int]string{UTF8: c.utf8, Big: c.big, Little: little} {
			want := Text{Coding: coding, Runes: []int{c.scalar}, Places: []int{0, len(data)}}
			if x, f := Decode(data, coding, true); f != (api.Fault{}) || !sameText(x, want) {
				t.Errorf("Decode(%x, %d) = %v, %v; want %v", data, coding, x, f, want)
			}
			if s, e := Encode([]int{c.scalar}, coding, false); e != api.OK || s != data {
				t.Errorf("Encode(%x, %d) = %x, %v; want %x", c.scalar, coding, s, e, data)
			}
		}
	}
}

func TestEncode(t *testing.T) {
	for _, c := range []struct {
		runes  []int
		coding int
		mark   bool
		data   string
	}{
		{nil, UTF8, false, ""},
		{nil, UTF8, true, "\xEF\xBB\xBF"},
		{nil, Little, true, "\xFF\xFE"},
		{nil, Big, true, "\xFE\xFF"},
		{[]int{}, Latin1, true, ""},
		{[]int{'a', 0xE4}, UTF8, false, "a\xC3\xA4"},
		{[]int{'a', 0xE4}, UTF8, true, "\xEF\xBB\xBFa\xC3\xA4"},
		{[]int{'a', 0x1F600}, Little, true, "\xFF\xFEa\x00\x3D\xD8\x00\xDE"},
		{[]int{'a', 0x1F600}, Big, true, "\xFE\xFF\x00a\xD8\x3D\xDE\x00"},
		{[]int{0, 0xFF, 'a'}, Latin1, true, "\x00\xFFa"},
		{[]int{0, 0xFF, 'a'}, Latin1, false, "\x00\xFFa"},
		{[]int{0xFEFF, 'a'}, UTF8, true, "\xEF\xBB\xBF\xEF\xBB\xBFa"},
		{[]int{0xFEFF, 'a'}, Little, false, "\xFF\xFEa\x00"},
	} {
		if s, e := Encode(c.runes, c.coding, c.mark); e != api.OK || s != c.data {
			t.Errorf("Encode(%x, %d, %v) = %x, %v; want %x", c.runes, c.coding, c.mark, s, e, c.data)
		}
	}
}

func TestEncodeWhatIsWrong(t *testing.T) {
	for _, c := range []struct {
		runes  []int
		coding int
		want   api.Errno
	}{
		{nil, Auto, api.ErrArg},
		{nil, -1, api.ErrArg},
		{nil, 5, api.ErrArg},
		{nil, math.MinInt, api.ErrArg},
		{nil, math.MaxInt, api.ErrArg},
		{[]int{-1}, Auto, api.ErrArg}, // named ahead of what is wrong with a scalar
		{[]int{-1}, 5, api.ErrArg},
		{[]int{-1}, UTF8, api.ErrText},
		{[]int{-1}, Little, api.ErrText},
		{[]int{-1}, Big, api.ErrText},
		{[]int{-1}, Latin1, api.ErrText},
		{[]int{'a', 0xD800}, UTF8, api.ErrText},
		{[]int{'a', 0xDFFF}, UTF8, api.ErrText},
		{[]int{0xD83D, 0xDE00}, Little, api.ErrText},
		{[]int{0xD83D, 0xDE00}, Big, api.ErrText},
		{[]int{0xDC00, 'a'}, Big, api.ErrText},
		{[]int{0x110000}, UTF8, api.ErrText},
		{[]int{0x110000}, Little, api.ErrText},
		{[]int{0x110000}, Big, api.ErrText},
		{[]int{math.MaxInt}, Big, api.ErrText},
		{[]int{math.MinInt}, UTF8, api.ErrText},
		{[]int{1<<32 | 'a'}, UTF8, api.ErrText},
		{[]int{0x100}, Latin1, api.ErrText},
		{[]int{'a', 0x20AC, 'b'}, Latin1, api.ErrText},
		{[]int{0xD800}, Latin1, api.ErrText},
	} {
		for _, mark := range []bool{false, true} {
			if s, e := Encode(c.runes, c.coding, mark); e != c.want || s != "" {
				t.Errorf("Encode(%x, %d, %v) = %x, %v; want %v", c.runes, c.coding, mark, s, e, c.want)
			}
		}
	}
}

func TestRunesStayAsTheyAre(t *testing.T) {
	room := []int{'a', 0x1F600, 0xE4, 7, 8, 9}
	was := slices.Clone(room)
	for coding := Auto; coding <= Latin1; coding++ {
		Encode(room[:3], coding, true)
		if !slices.Equal(room, was) {
			t.Fatalf("coding %d changed the runes: %x", coding, room)
		}
	}
}

func TestTextsShareNothing(t *testing.T) {
	for coding := Auto; coding <= Latin1; coding++ {
		a, _ := Decode("abcd", coding, false)
		b, _ := Decode("abcd", coding, false)
		for i := range a.Runes {
			a.Runes[i] = -5
		}
		a.Runes = append(a.Runes, -5)
		if !slices.Equal(a.Places, b.Places) {
			t.Errorf("coding %d: runes and places share memory", coding)
		}
		for i := range a.Places {
			a.Places[i] = -5
		}
		if c, _ := Decode("abcd", coding, false); !sameText(b, c) {
			t.Errorf("coding %d: answers share memory", coding)
		}
	}
}
