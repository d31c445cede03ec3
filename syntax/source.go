package syntax

import (
	"ferret/api"
	"ferret/coding"
	"ferret/sets"
)

// end is told where no scalar stands any more: none has this number.
const end = -1

// source is a pattern's text, read scalar by scalar.
type source struct {
	coding.Text
	bytes string
	at    int // how many scalars are read
}

// look: the scalar that stands so many further on.
func (s *source) look(further int) int {
	if s.at+further >= len(s.Runes) {
		return end
	}
	return s.Runes[s.at+further]
}

func (s *source) take() int {
	r := s.look(0)
	if r != end {
		s.at++
	}
	return r
}

// took takes a word of ASCII, if it stands here.
func (s *source) took(word string) bool {
	for i := range len(word) {
		if s.look(i) != int(word[i]) {
			return false
		}
	}
	s.at += len(word)
	return true
}

// run takes scalars that fit, as many as stand here, at most so many.
func (s *source) run(fits func(r int) bool, most int) string {
	from := s.at
	for s.at-from < most && fits(s.look(0)) {
		s.at++
	}
	return s.bytes[s.Places[from]:s.Places[s.at]]
}

// wrong: what is wrong at the scalar that has so many ahead.
func (s *source) wrong(code api.Errno, at int) api.Fault {
	return api.Fault{Code: code, At: s.Places[at]}
}

func between(from, to int) sets.Set {
	return sets.Of(api.Range{From: from, To: to})
}

func only(r int) sets.Set {
	return between(r, r)
}

func digits() sets.Set {
	return between('0', '9')
}

func hexDigits() sets.Set {
	return digits().Or(between('A', 'F')).Or(between('a', 'f'))
}

func lettersAndDigits() sets.Set {
	return digits().Or(between('A', 'Z')).Or(between('a', 'z'))
}

func nameSigns() sets.Set {
	return lettersAndDigits().Or(only('_'))
}
