package utfsplit

import (
	"math"
	"slices"
	"testing"

	"ferret/api"
	"ferret/sets"
)

// ranges of numbers, two a range.
func ranges(l ...int) []api.Range {
	var out []api.Range
	for i := 0; i < len(l); i += 2 {
		out = append(out, api.Range{From: l[i], To: l[i+1]})
	}
	return out
}

func set(l ...int) sets.Set { return sets.Of(ranges(l...)...) }
func row(l ...int) Row      { return ranges(l...) }

func TestHas(t *testing.T) {
	for _, c := range []struct {
		what string
		w    Row
		s    string
		want bool
	}{
		{"no ranges, no bytes", nil, "", true},
		{"an empty row, no bytes", Row{}, "", true},
		{"no ranges, a byte", nil, "a", false},
		{"a range, no bytes", row('a', 'z'), "", false},
		{"the first of a range", row('a', 'z'), "a", true},
		{"the last of a range", row('a', 'z'), "z", true},
		{"below a range", row('a', 'z'), "`", false},
		{"above a range", row('a', 'z'), "{", false},
		{"of one byte", row('a', 'a'), "a", true},
		{"a byte more", row('a', 'z'), "ab", false},
		{"a byte fewer", row('a', 'z', 'a', 'z'), "a", false},
		{"each in its range", row(0xC2, 0xDF, 0x80, 0xBF), "\xC2\xBF", true},
		{"only the first in its range", row(0xC2, 0xDF, 0x80, 0xBF), "\xC2\xC0", false},
		{"only the second in its range", row(0xC2, 0xDF, 0x80, 0xBF), "\xE0\x80", false},
		{"in one another's ranges", row('a', 'a', 'b', 'b'), "ba", false},
		{"four", row(0xF0, 0xF0, 0x90, 0x90, 0x80, 0x80, 0x80, 0x81), "\xF0\x90\x80\x81", true},
		{"four, the last above", row(0xF0, 0xF0, 0x90, 0x90, 0x80, 0x80, 0x80, 0x81), "\xF0\x90\x80\x82", false},
		{"five", row('a', 'a', 'a', 'a', 'a', 'a', 'a', 'a', 'a', 'a'), "aaaaa", true},
		{"all bytes: the least", row(0, 255), "\x00", true},
		{"all bytes: the greatest", row(0, 255), "\xFF", true},
		{"turned round", row('z', 'a'), "m", false},
		{"wider than bytes", row(math.MinInt, math.MaxInt), "a", true},
		{"outside of bytes", row(256, 300), "\x00", false},
		{"below bytes", row(-5, -1), "\xFF", false},
	} {
		if got := c.w.Has(c.s); got != c.want {
			t.Errorf("%s: %v", c.what, got)
		}
	}
}

func TestHeads(t *testing.T) {
	for _, c := range []struct {
		what string
		l    []Row
		want []api.Range
	}{
		{"no rows", nil, nil},
		{"an empty list", []Row{}, nil},
		{"rows without ranges", []Row{nil, {}}, nil},
		{"one", []Row{row(5, 9)}, ranges(5, 9)},
		{"of more only the first", []Row{row(5, 9, 20, 30)}, ranges(5, 9)},
		{"in any order", []Row{row(20, 30), row(5, 9)}, ranges(5, 9, 20, 30)},
		{"one twice", []Row{row(5, 9, 1, 1), row(5, 9, 2, 2)}, ranges(5, 9)},
		{"they touch", []Row{row(5, 9), row(10, 12, 1, 2)}, ranges(5, 12)},
		{"among rows without ranges", []Row{nil, row(5, 9), {}, row(1, 1)}, ranges(1, 1, 5, 9)},
		{"all bytes", []Row{row(0, 255)}, ranges(0, 255)},
		{"turned round", []Row{row(9, 5), row(1, 2)}, ranges(1, 2)},
	} {
		if got := Heads(c.l); !slices.Equal(got, c.want) {
			t.Errorf("%s: %v, want %v", c.what, got, c.want)
		}
	}
	all := Heads(Split(set(0, api.MaxRune)))
	if want := ranges(0, 0x7F, 0xC2, 0xF4); !slices.Equal(all, want) {
		t.Errorf("of all scalars: %v, want %v", all, want)
	}
}

// TestSplitByHand: rows as the chapter's way tells them, but that what has one byte isn't cut.
func TestSplitByHand(t *testing.T) {
	further := []int{0x80, 0xBF}
	whole := func(l ...int) Row {
		for len(l) < 8 && (l[0] >= 0xF0 || len(l) < 6) {
			l = append(l, further...)
		}
		return row(l...)
	}
	for _, c := range []struct {
		what string
		s    sets.Set
		want []Row
	}{
		{"none", nil, nil},
		{"the chapter's example", set(0x41, 0x41), []Row{row(0x41, 0x41)}},
		{"one byte", set(0, 0x7F), []Row{row(0, 0x7F)}},
		{"two bytes", set(0x80, 0x7FF), []Row{row(0xC2, 0xDF, 0x80, 0xBF)}},
		{"from one byte to two", set(0x7F, 0x80), []Row{row(0x7F, 0x7F), row(0xC2, 0xC2, 0x80, 0x80)}},
		{"from two to three", set(0x7FF, 0x800), []Row{row(0xDF, 0xDF, 0xBF, 0xBF), row(0xE0, 0xE0, 0xA0, 0xA0, 0x80, 0x80)}},
		{"from three to four", set(0xFFFF, 0x10000), []Row{row(0xEF, 0xEF, 0xBF, 0xBF, 0xBF, 0xBF), row(0xF0, 0xF0, 0x90, 0x90, 0x80, 0x80, 0x80, 0x80)}},
		{"across what is no scalar", set(0xD7FF, 0xE000), []Row{row(0xED, 0xED, 0x9F, 0x9F, 0xBF, 0xBF), row(0xEE, 0xEE, 0x80, 0x80, 0x80, 0x80)}},
		{"no scalars", set(0xD800, 0xDFFF), nil},
		{"one that is no scalar", set(0xDC00, 0xDC00), nil},
		{"the last", set(api.MaxRune, api.MaxRune), []Row{row(0xF4, 0xF4, 0x8F, 0x8F, 0xBF, 0xBF, 0xBF, 0xBF)}},
		{"the same above six bits", set(0xC1, 0xC5), []Row{row(0xC3, 0xC3, 0x81, 0x85)}},
		{"both ends cut", set(0xC1, 0x17E), []Row{row(0xC3, 0xC3, 0x81, 0xBF), row(0xC4, 0xC4, 0x80, 0xBF), row(0xC5, 0xC5, 0x80, 0xBE)}},
		{"all", set(0, api.MaxRune), []Row{
			row(0, 0x7F), row(0xC2, 0xDF, 0x80, 0xBF),
			whole(0xE0, 0xE0, 0xA0, 0xBF), whole(0xE1, 0xEC), whole(0xED, 0xED, 0x80, 0x9F), whole(0xEE, 0xEF),
			whole(0xF0, 0xF0, 0x90, 0xBF), whole(0xF1, 0xF3), whole(0xF4, 0xF4, 0x80, 0x8F),
		}},
	} {
		got := Split(c.s)
		if !slices.EqualFunc(got, c.want, slices.Equal[Row]) {
			t.Errorf("%s: %x, want %x", c.what, got, c.want)
		}
		checkAll(t, c.s)
	}
}

// TestRowsAreFew: fewer than may be, also where both ends are cut.
func TestRowsAreFew(t *testing.T) {
	for _, c := range []struct {
		s    sets.Set
		most int
	}{
		{set(1, api.MaxRune-1), 11},
		{set(0x81, api.MaxRune-1), 11},
		{set(1, 0x7E), 1},
		{set(0x81, 0x7FE), 3},
		{set(0x801, 0xD7FE), 5},
		{set(0x10001, api.MaxRune-1), 7},
	} {
		if l := Split(c.s); len(l) > c.most {
			t.Errorf("%x: %d rows: %x", c.s, len(l), l)
		}
	}
}
