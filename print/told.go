package print

import (
	"strconv"
	"strings"

	"ferret/api"
	"ferret/lines"
)

// The keys of an object, in their order.
const (
	nameKey  = "name"
	lineKey  = "line"
	textKey  = "text"
	spansKey = "spans"
)

// part tells what stands in one place of the line i.
type part func(i int) string

// told: so many lines, each of these parts.
func told(count int, parts ...part) string {
	var out strings.Builder
	for i := range count {
		for _, tell := range parts {
			out.WriteString(tell(i))
		}
		out.WriteByte('\n')
	}
	return out.String()
}

// always is a part that is the same in each line.
func always(text string) part {
	return func(int) string { return text }
}

// head is what stands ahead of a line.
func (r Result) head() part {
	if r.Named {
		return always(r.Name + ":")
	}
	return always("")
}

// bytes of a span; of one that is hand-made so that it leaves the text, those that are in the text.
func (r Result) bytes(s api.Span) string {
	from := min(max(s.From, 0), len(r.Text))
	to := min(max(s.To, from), len(r.Text))
	return r.Text[from:to]
}

// spans: what begins in a line, at its places in that line.
func (r Result) spans(line lines.Line) string {
	var pairs []string
	for _, place := range line.Found {
		if place < 0 || place >= len(r.Found) {
			continue // hand-made: nothing was found there
		}
		from, to := r.Found[place].From-line.Span.From, r.Found[place].To-line.Span.From
		pairs = append(pairs, "["+strconv.Itoa(from)+","+strconv.Itoa(to)+"]")
	}
	return "[" + strings.Join(pairs, ",") + "]"
}
