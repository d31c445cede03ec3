package lines

import (
	"math"
	"slices"
	"strings"
	"testing"

	"ferret/api"
)

const (
	with    = false // lines that are touched
	without = true
)

func span(from, to int) api.Span { return api.Span{From: from, To: to} }

func TestSplitByHand(t *testing.T) {
	for _, c := range []struct {
		text string
		want []api.Span
	}{
		{"", nil},
		{"a", []api.Span{span(0, 1)}},
		{"a\n", []api.Span{span(0, 1)}},
		{"\n", []api.Span{span(0, 0)}},
		{"\n\n", []api.Span{span(0, 0), span(1, 1)}},
		{"\na", []api.Span{span(0, 0), span(1, 2)}},
		{"a\nb", []api.Span{span(0, 1), span(2, 3)}},
		{"a\n\nbc", []api.Span{span(0, 1), span(2, 2), span(3, 5)}},
		{"a\n\n", []api.Span{span(0, 1), span(2, 2)}},
		{"a\r\nb\r", []api.Span{span(0, 2), span(3, 5)}},
		{"\x00\n\xFF\xFE\n\u00E4", []api.Span{span(0, 1), span(2, 4), span(5, 7)}},
		{"a\u0085b\u2028c\v\f", []api.Span{span(0, 10)}},
	} {
		if got := Split(c.text); !slices.Equal(got, c.want) {
			t.Errorf("%q: %v, want %v", c.text, got, c.want)
		}
		if model := splitByWords(c.text); !slices.Equal(model, c.want) {
			t.Errorf("%q: the model has %v", c.text, model)
		}
	}
}

func TestAtByHand(t *testing.T) {
	for _, c := range []struct {
		text  string
		place int
		want  int
	}{
		{"", 0, -1}, {"", -1, -1}, {"", 1, -1}, {"", math.MaxInt, -1}, {"", math.MinInt, -1},
		{"a", 0, 0}, {"a", 1, 0}, {"a", 2, 0}, {"a", -1, -1},
		{"a\n", 1, 0}, {"a\n", 2, 0}, {"a\n", 3, 0},
		{"ab\n\nc", 0, 0}, {"ab\n\nc", 1, 0}, {"ab\n\nc", 2, 0}, {"ab\n\nc", 3, 1}, {"ab\n\nc", 4, 2}, {"ab\n\nc", 5, 2},
		{"ab\n\nc", 6, 2}, {"ab\n\nc", math.MaxInt, 2}, {"ab\n\nc", math.MaxInt - 1, 2},
		{"ab\n\nc", -1, -1}, {"ab\n\nc", math.MinInt, -1}, {"ab\n\nc", math.MinInt + 1, -1},
	} {
		if got := At(Split(c.text), c.place); got != c.want {
			t.Errorf("%q at %d: %d, want %d", c.text, c.place, got, c.want)
		}
	}
}

func TestSelectByHand(t *testing.T) {
	const text = "ab\nc\n\nd\n" // the lines 0 to 2, 3 to 4, 5 to 5, 6 to 7
	l1, l2, l3, l4 := span(0, 2), span(3, 4), span(5, 5), span(6, 7)
	for _, c := range []struct {
		text   string
		found  []api.Span
		invert bool
		want   []Line
	}{
		{"ab\nc", []api.Span{span(1, 3)}, with, []Line{{1, l1, []int{0}}}},
		{"ab\nc", []api.Span{span(1, 3)}, without, []Line{{2, l2, nil}}},
		{"ab\nc", []api.Span{span(1, 4)}, with, []Line{{1, l1, []int{0}}, {2, l2, nil}}},
		{"ab\nc", []api.Span{span(1, 4)}, without, nil},

		// Nothing is found, or there is nothing.
		{text, nil, with, nil},
		{text, nil, without, []Line{{1, l1, nil}, {2, l2, nil}, {3, l3, nil}, {4, l4, nil}}},
		{"", nil, with, nil},
		{"", nil, without, nil},
		{"", []api.Span{span(0, 0)}, with, nil},
		{"", []api.Span{span(0, 0), span(0, 0)}, without, nil},

		// Empty spans: at a line's beginning, at its newline, at the text's end.
		{text, []api.Span{span(0, 0)}, with, []Line{{1, l1, []int{0}}}},
		{text, []api.Span{span(2, 2)}, with, []Line{{1, l1, []int{0}}}},
		{text, []api.Span{span(3, 3)}, with, []Line{{2, l2, []int{0}}}},
		{text, []api.Span{span(5, 5)}, with, []Line{{3, l3, []int{0}}}},
		{text, []api.Span{span(8, 8)}, with, []Line{{4, l4, []int{0}}}},
		{text, []api.Span{span(8, 8)}, without, []Line{{1, l1, nil}, {2, l2, nil}, {3, l3, nil}}},
		{"a", []api.Span{span(1, 1)}, with, []Line{{1, span(0, 1), []int{0}}}},
		{"\n", []api.Span{span(1, 1)}, with, []Line{{1, span(0, 0), []int{0}}}},

		// Others: up to a newline, with it, and behind it.
		{text, []api.Span{span(0, 2)}, with, []Line{{1, l1, []int{0}}}},
		{text, []api.Span{span(0, 3)}, with, []Line{{1, l1, []int{0}}}},
		{text, []api.Span{span(2, 3)}, with, []Line{{1, l1, []int{0}}}},
		{text, []api.Span{span(2, 4)}, with, []Line{{1, l1, []int{0}}, {2, l2, nil}}},
		{text, []api.Span{span(4, 5)}, with, []Line{{2, l2, []int{0}}}},
		{text, []api.Span{span(4, 6)}, with, []Line{{2, l2, []int{0}}, {3, l3, nil}}},
		{text, []api.Span{span(4, 7)}, with, []Line{{2, l2, []int{0}}, {3, l3, nil}, {4, l4, nil}}},
		{text, []api.Span{span(4, 7)}, without, []Line{{1, l1, nil}}},
		{text, []api.Span{span(0, 8)}, with, []Line{{1, l1, []int{0}}, {2, l2, nil}, {3, l3, nil}, {4, l4, nil}}},
		{text, []api.Span{span(0, 8)}, without, nil},

		// Several: in one line, over one another, at one place.
		{text, []api.Span{span(0, 1), span(1, 2), span(2, 3)}, with, []Line{{1, l1, []int{0, 1, 2}}}},
		{text, []api.Span{span(0, 1), span(6, 7)}, with, []Line{{1, l1, []int{0}}, {4, l4, []int{1}}}},
		{text, []api.Span{span(0, 1), span(6, 7)}, without, []Line{{2, l2, nil}, {3, l3, nil}}},
		{text, []api.Span{span(1, 4), span(2, 2), span(3, 4)}, with, []Line{{1, l1, []int{0, 1}}, {2, l2, []int{2}}}},
		{text, []api.Span{span(0, 7), span(3, 4), span(5, 5)}, with, []Line{{1, l1, []int{0}}, {2, l2, []int{1}}, {3, l3, []int{2}}, {4, l4, nil}}},
		{text, []api.Span{span(0, 7), span(0, 0), span(0, 4)}, with, []Line{{1, l1, []int{0, 1, 2}}, {2, l2, nil}, {3, l3, nil}, {4, l4, nil}}},
		{text, []api.Span{span(3, 3), span(3, 3), span(8, 8)}, without, []Line{{1, l1, nil}, {3, l3, nil}}},
		{text, []api.Span{span(0, 0), span(1, 6), span(6, 6)}, with, []Line{{1, l1, []int{0, 1}}, {2, l2, nil}, {3, l3, nil}, {4, l4, []int{2}}}},
	} {
		if got := Select(c.text, c.found, c.invert); !alike(got, c.want) {
			t.Errorf("%q, %v, %v: %v, want %v", c.text, c.found, c.invert, got, c.want)
		}
		if model := selectByWords(c.text, c.found, c.invert); !alike(model, c.want) {
			t.Errorf("%q, %v, %v: the model has %v", c.text, c.found, c.invert, model)
		}
	}
}

func TestNothingIsChangedOrShared(t *testing.T) {
	const text = "ab\ncd\nef\ngh"
	room := []api.Span{span(0, 1), span(1, 1), span(1, 4), span(4, 5), span(9, 9), span(-7, -7), span(77, 7)}
	was := slices.Clone(room)
	found := room[:5]
	split, again := Split(text), Split(text)
	kept := slices.Clone(split)
	clear(again[:cap(again)])
	if !slices.Equal(split, kept) {
		t.Fatalf("memory is shared: %v", split)
	}
	want := []Line{{1, span(0, 2), []int{0, 1, 2}}, {2, span(3, 5), []int{3}}, {4, span(9, 11), []int{4}}}
	first, second := Select(text, found, with), Select(text, found, with)
	if !alike(first, want) || !alike(second, want) {
		t.Fatalf("%v, %v", first, second)
	}
	for _, line := range second {
		clear(line.Found[:cap(line.Found)])
		if !alike(first, want) {
			t.Fatalf("memory is shared: %v", first)
		}
	}
	for i, line := range first[:2] {
		clear(line.Found[:cap(line.Found)])
		if !alike(first[i+1:], want[i+1:]) {
			t.Fatalf("memory is shared within an answer: %v", first)
		}
	}
	Select(text, found, without)
	At(split[:2], 9)
	if !slices.Equal(room, was) || !slices.Equal(split, kept) {
		t.Errorf("a list was changed: %v, %v", room, split)
	}
}

// TestLongTexts: with so many lines and spans that no line may be looked at for each span.
func TestLongTexts(t *testing.T) {
	const count = 1 << 19
	text := strings.Repeat("a\n", count)
	l := Split(text)
	if len(l) != count || l[count-1] != span(2*count-2, 2*count-1) {
		t.Fatalf("%d lines", len(l))
	}
	var each, nested []api.Span
	for i := range count {
		each = append(each, span(2*i, 2*i+1))
		nested = append(nested, span(i, 2*count-i))
	}
	for i, place := range l {
		if At(l, place.From) != i || At(l, place.To) != i {
			t.Fatalf("line %d isn't at its places", i)
		}
	}
	if got := Select(text, each, with); len(got) != count || got[count-1].Number != count || !slices.Equal(got[count-1].Found, []int{count - 1}) {
		t.Errorf("of each line one: %d", len(got))
	}
	if got := Select(text, each[1:], without); len(got) != 1 || got[0].Number != 1 {
		t.Errorf("of each line but one: %v", len(got))
	}
	if got := Select(text, nested, with); len(got) != count || !slices.Equal(got[1].Found, []int{2, 3}) || len(got[count-1].Found) != 0 {
		t.Errorf("all lines again and again: %d", len(got))
	}
	one := strings.Repeat("a", 2*count)
	if got := Select(one, each, with); len(got) != 1 || len(got[0].Found) != count || got[0].Found[count-1] != count-1 {
		t.Errorf("all in one line: %d", len(got))
	}
}

// TestAnySpans: of those that aren't of the text, or don't rise, nothing is promised but that there is an answer.
func TestAnySpans(t *testing.T) {
	numbers := []int{math.MinInt, math.MinInt + 1, -1, 0, 1, 2, 3, 4, 5, math.MaxInt - 1, math.MaxInt}
	for _, text := range []string{"", "a", "\n", "a\nb", "ab\n\n"} {
		var all []api.Span
		for _, from := range numbers {
			for _, to := range numbers {
				all = append(all, span(from, to))
				for _, invert := range []bool{with, without} {
					Select(text, []api.Span{span(from, to)}, invert)
				}
			}
		}
		Select(text, all, with)
		slices.Reverse(all)
		Select(text, all, without)
		for _, place := range numbers {
			At(all, place)
		}
	}
}
