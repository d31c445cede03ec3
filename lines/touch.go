package lines

import (
	"iter"
	"strings"

	"ferret/api"
)

// each goes through a text's lines, with their numbers from 0 on.
func each(text string) iter.Seq2[int, api.Span] {
	return func(yield func(int, api.Span) bool) {
		for from, number := 0, 0; from < len(text); number++ {
			to := lineEnd(text, from)
			if !yield(number, api.Span{From: from, To: to}) {
				return
			}
			from = to + 1
		}
	}
}

// lineEnd: the place of the next newline, or the text's end.
func lineEnd(text string, from int) int {
	if size := strings.IndexByte(text[from:], '\n'); size >= 0 {
		return from + size
	}
	return len(text)
}

// touch tells of each line what begins in it, and how many more spans touch it than the line ahead.
// So a span counts at its two ends alone, however many lines it goes over.
type touch struct {
	begin  [][]int
	change []int
}

// lay lays spans over lines.
func lay(l []api.Span, found []api.Span) touch {
	t := touch{make([][]int, len(l)), make([]int, len(l)+1)}
	for i, span := range found {
		first, last := At(l, span.From), At(l, lastPlace(span))
		if first < 0 || last < first {
			continue
		}
		t.begin[first] = append(t.begin[first], i)
		t.change[first]++
		t.change[last+1]--
	}
	return t
}

// lastPlace: the place of a span's last byte; of an empty one its own.
func lastPlace(s api.Span) int {
	if s.To > s.From {
		return s.To - 1
	}
	return s.To
}
