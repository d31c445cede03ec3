package suite

import (
	"math"

	"ferret/api"
	"ferret/lines"
	"ferret/print"
	"ferret/templ"
)

// asMany is for matches, of which all are wanted.
const asMany = math.MaxInt

// tell: false, where that would have more than so many bytes.
func (s search) tell(name, text string, most int) (string, bool) {
	matches := s.matches(text)
	if s.Mode == Replace {
		return templ.Replace(text, matches, s.pieces, most)
	}
	found := spans(matches)
	told := tellers()[s.Mode](print.Result{
		Name:  name,
		Named: s.Named,
		Text:  text,
		Lines: lines.Select(text, found, s.Invert),
		Found: found,
	})
	return told, len(told) <= most
}

// tellers: how each mode tells a result; Replace tells the text itself.
func tellers() [Each + 1]func(print.Result) string {
	return [...]func(print.Result) string{
		Plain:   print.Result.Plain,
		Objects: print.Result.Objects,
		Count:   print.Result.Count,
		Each:    print.Result.Each,
	}
}

// matches: of a text as a whole, or of each of its lines as if there were no others.
func (s search) matches(text string) [][]int {
	if s.Multi {
		return s.All(text, asMany)
	}
	var all [][]int
	for _, line := range lines.Split(text) {
		for _, notes := range s.All(text[line.From:line.To], asMany) {
			move(notes, line.From)
			all = append(all, notes)
		}
	}
	return all
}

// move makes places of a line places of its text; a group that took nothing has none in either.
func move(notes []int, from int) {
	for i, place := range notes {
		if place >= 0 {
			notes[i] = place + from
		}
	}
}

// spans: of the matches, without their groups.
func spans(matches [][]int) []api.Span {
	l := make([]api.Span, len(matches))
	for i, notes := range matches {
		l[i] = api.Span{From: notes[0], To: notes[1]}
	}
	return l
}
