package suite

import (
	"strings"

	"ferret/api"
	"ferret/coding"
	"ferret/find"
	"ferret/syntax"
	"ferret/templ"
)

// bare is for texts without a coding's mark.
const bare = false

// search is what goes through members, one behind the other.
type search struct {
	Options
	*find.Finder
	pieces []templ.Piece // of the template, in the mode Replace
}

// newSearch looks at all that doesn't hang on the blob.
func newSearch(o Options) (search, Fault) {
	if fault := o.wrong(); fault != (Fault{}) {
		return search{}, fault
	}
	pattern, met := syntax.Parse(o.Pattern, o.Flags)
	if met != (api.Fault{}) {
		return search{}, in(InPattern, met)
	}
	finder, err := find.New(pattern, o.Engine)
	if err != api.OK {
		return search{}, Fault{Code: err, Member: InPattern}
	}
	s := search{Options: o, Finder: finder}
	if o.Mode == Replace {
		if s.pieces, met = templ.Parse(o.Template, pattern.Names); met != (api.Fault{}) {
			return search{}, in(InTemplate, met)
		}
	}
	return s, Fault{}
}

// wrong: the first of the numbers that is out of its bounds.
func (o Options) wrong() Fault {
	numbers := [...]struct{ greatest, number int }{
		{TarGzip, o.Container},
		{coding.Latin1, o.Coding},
		{Each, o.Mode},
		{api.MaxOut, o.Most},
	}
	for at, n := range numbers {
		if !isUpTo(n.greatest, n.number) {
			return Fault{Code: api.ErrOption, Member: InOptions, At: at}
		}
	}
	return Fault{}
}

func isUpTo(greatest, number int) bool {
	return 0 <= number && number <= greatest
}

// through: what is told of members, up to the first with which something is wrong.
func (s search) through(members []api.Member) (string, Fault) {
	var out strings.Builder
	for i, member := range members {
		told, met := s.member(member, s.Most-out.Len())
		if met != (api.Fault{}) {
			return out.String(), in(i, met)
		}
		out.WriteString(told)
	}
	return out.String(), Fault{}
}

// member: what is told of one, in at most so many bytes.
func (s search) member(m api.Member, most int) (string, api.Fault) {
	scalars, met := coding.Decode(m.Data, s.Coding, s.Strict)
	if met != (api.Fault{}) {
		return "", met
	}
	text, _ := coding.Encode(scalars.Runes, coding.UTF8, bare) // what Decode tells are scalars
	told, ok := s.tell(m.Name, text, most)
	if !ok {
		return "", api.Fault{Code: api.ErrLong}
	}
	return told, api.Fault{}
}
