package lines

import (
	"math/rand/v2"
	"slices"
	"strings"
	"testing"

	"ferret/api"
)

// alike: an empty list is the same as none.
func alike(a, b []Line) bool {
	return slices.EqualFunc(a, b, func(x, y Line) bool {
		return x.Number == y.Number && x.Span == y.Span && slices.Equal(x.Found, y.Found)
	})
}

func splitByWords(text string) []api.Span {
	var l []api.Span
	place := 0
	for _, line := range strings.SplitAfter(text, "\n") {
		if line != "" {
			l = append(l, span(place, place+len(strings.TrimSuffix(line, "\n"))))
		}
		place += len(line)
	}
	return l
}

func atByWords(l []api.Span, place int) int {
	last := -1
	for i := range l {
		if l[i].From <= place {
			last = i
		}
	}
	return last
}

func selectByWords(text string, found []api.Span, invert bool) []Line {
	l := splitByWords(text)
	touched := make([]bool, len(l))
	begin := make([][]int, len(l))
	for i, s := range found {
		if len(l) == 0 {
			break
		}
		from, to := atByWords(l, s.From), atByWords(l, s.To)
		if s.To > s.From {
			to = atByWords(l, s.To-1)
		}
		for line := from; line <= to; line++ {
			touched[line] = true
		}
		begin[from] = append(begin[from], i)
	}
	var chosen []Line
	for i, s := range l {
		switch {
		case invert && !touched[i]:
			chosen = append(chosen, Line{Number: i + 1, Span: s})
		case !invert && touched[i]:
			chosen = append(chosen, Line{Number: i + 1, Span: s, Found: begin[i]})
		}
	}
	return chosen
}

var pieces = []string{"a", "b", "\u00E4", "\xFF", "\r", "\n", "\n", "\n", "\n\n", "abc"}

func someText(source *rand.Rand, most int) string {
	var b strings.Builder
	for range source.IntN(most) {
		b.WriteString(pieces[source.IntN(len(pieces))])
	}
	return b.String()
}

// someSpans rise by their From; they may lie over one another.
func someSpans(source *rand.Rand, size, most int) []api.Span {
	var l []api.Span
	for range source.IntN(most) {
		from := source.IntN(size + 1)
		to := from + source.IntN(size-from+1)
		if source.IntN(2) == 0 {
			to = min(from+source.IntN(3), size)
		}
		l = append(l, span(from, to))
	}
	slices.SortStableFunc(l, func(a, b api.Span) int { return a.From - b.From })
	return l
}

func TestAgainstModel(t *testing.T) {
	source := rand.New(rand.NewPCG(20, 1))
	some, none := 0, 0
	for range 100000 {
		text := someText(source, 20)
		l := Split(text)
		if want := splitByWords(text); !slices.Equal(l, want) {
			t.Fatalf("%q: %v, want %v", text, l, want)
		}
		for place := -2; place < len(text)+3; place++ {
			if got, want := At(l, place), atByWords(l, place); got != want {
				t.Fatalf("%q at %d: %d, want %d", text, place, got, want)
			}
		}
		found := someSpans(source, len(text), 6)
		for _, invert := range []bool{with, without} {
			got, want := Select(text, found, invert), selectByWords(text, found, invert)
			if !alike(got, want) {
				t.Fatalf("%q, %v, %v: %v, want %v", text, found, invert, got, want)
			}
			if len(got) > 0 {
				some++
			} else {
				none++
			}
		}
	}
	if some < 50000 || none < 10000 {
		t.Errorf("only %d times there were lines, %d times none", some, none)
	}
}

// TestEachLineOnce: what is told with and without invert is, together, all lines; and each span is found in one line.
func TestEachLineOnce(t *testing.T) {
	source := rand.New(rand.NewPCG(20, 2))
	for range 20000 {
		text := someText(source, 40)
		found := someSpans(source, len(text), 10)
		touched, others := Select(text, found, with), Select(text, found, without)
		var spans []api.Span
		var places []int
		for _, line := range slices.Concat(touched, others) {
			spans = append(spans, line.Span)
			places = append(places, line.Found...)
			if l := Split(text); l[line.Number-1] != line.Span {
				t.Fatalf("%q: %v, want %v", text, line, l[line.Number-1])
			}
		}
		slices.SortFunc(spans, func(a, b api.Span) int { return a.From - b.From })
		if !slices.Equal(spans, Split(text)) {
			t.Fatalf("%q, %v: %v and %v", text, found, touched, others)
		}
		for i := range places {
			if places[i] != i {
				t.Fatalf("%q, %v: %v", text, found, touched)
			}
		}
		if text != "" && len(places) != len(found) {
			t.Fatalf("%q, %v: %v", text, found, touched)
		}
	}
}

// TestEachStops: whoever goes through lines may leave off.
func TestEachStops(t *testing.T) {
	for want := range 3 {
		count := 0
		for number, s := range each("a\nb\nc\nd") {
			if number != count || s != span(2*number, 2*number+1) {
				t.Fatalf("line %d: %v", number, s)
			}
			if count == want {
				break
			}
			count++
		}
		if count != want {
			t.Errorf("%d lines, want %d", count, want)
		}
	}
}
