package args

import (
	"slices"

	"ferret/suite"
)

// request is what one text asks for.
type request struct {
	suite.Options
	blob string
}

// key is a word, and where the value behind it is kept.
type key struct {
	word string
	kept value
}

// keys are in the order in which they are told.
func (r *request) keys() []key {
	return []key{
		{"container", numberAt{&r.Container}},
		{"coding", numberAt{&r.Coding}},
		{"mode", numberAt{&r.Mode}},
		{"most", numberAt{&r.Most}},
		{"states", numberAt{&r.Engine.States}},
		{"strict", choiceAt{&r.Strict}},
		{"invert", choiceAt{&r.Invert}},
		{"multi", choiceAt{&r.Multi}},
		{"named", choiceAt{&r.Named}},
		{"fold", choiceAt{&r.Flags.Fold}},
		{"lines", choiceAt{&r.Flags.Lines}},
		{"dot", choiceAt{&r.Flags.Dot}},
		{"short", choiceAt{&r.Flags.Lazy}},
		{"lazy", choiceAt{&r.Engine.Lazy}},
		{"words", choiceAt{&r.Engine.Words}},
		{"pattern", textAt{&r.Pattern}},
		{"template", textAt{&r.Template}},
		{"blob", textAt{&r.blob}},
	}
}

// read keeps the values of texts, two by two; false, and the place of the first key with which something is wrong.
func (r *request) read(l []string) (int, bool) {
	left := r.keys()
	for at := 0; at < len(l); at += 2 {
		place := slices.IndexFunc(left, func(k key) bool { return k.word == l[at] })
		if place < 0 || at+1 == len(l) || !left[place].kept.read(l[at+1]) {
			return at, false
		}
		left = slices.Delete(left, place, place+1) // so a key that was there already is none any more
	}
	return 0, true
}

// texts: the keys whose values aren't zero, each with its value behind it.
func (r *request) texts() []string {
	var l []string
	for _, k := range r.keys() {
		if told := k.kept.told(); told != "" {
			l = append(l, k.word, told)
		}
	}
	return l
}
