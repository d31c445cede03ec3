package squeeze

import "ferret/api"

const (
	farthest = 32768 // that a token may look back
	least    = 3     // bytes that a token lets come again
	longest  = 258
)

// Token is a byte, or a length and a distance.
type Token struct {
	Byte             byte
	Length, Distance int
}

// Tokens: of the bytes of a span, with what stands ahead of it.
func Tokens(data string, from, to, reach int) []Token {
	if from < 0 || from > to || to > len(data) {
		return nil
	}
	reach = counted(reach)
	return newPast(data, max(from-reach, 0)).tokens(api.Span{From: from, To: to}, reach)
}

// counted: a reach, as it counts.
func counted(reach int) int {
	return min(max(reach, 0), farthest)
}

// past knows where each three bytes stood, so that not every distance must be tried: what comes again begins with three bytes that came.
type past struct {
	data   string
	first  int         // the place from which on it knows
	last   map[int]int // by three bytes: the place behind the last one at which they stood
	before []int       // by how far a place is behind the first: the last one ahead of it with the same three bytes, or -1
}

func newPast(data string, first int) *past {
	return &past{data: data, first: first, last: map[int]int{}}
}

// tokens of a span, which must not begin ahead of one that was asked for earlier.
func (p *past) tokens(s api.Span, reach int) []Token {
	var list []Token
	at := s.From
	for at < s.To {
		length, distance := p.find(at, s.To, reach)
		if length < least {
			list = append(list, Token{Byte: p.data[at]})
			at++
			continue
		}
		list = append(list, Token{Length: length, Distance: distance})
		at += length
	}
	return list
}

// find: how many bytes from a place on come again, and from how far back; 0, where they are too few.
func (p *past) find(at, to, reach int) (int, int) {
	most := min(longest, to-at)
	if most < least || reach == 0 {
		return 0, 0
	}
	p.learn(at)
	length, distance := least-1, 0
	place := p.last[p.three(at)] - 1
	for place >= 0 && at-place <= reach && length < most {
		if n := p.same(place, at, length, most); n > length {
			length, distance = n, at-place
		}
		place = p.before[place-p.first]
	}
	if distance == 0 {
		return 0, 0
	}
	return length, distance
}

// learn makes all places ahead of one known; three bytes must stand at each of them.
func (p *past) learn(to int) {
	for at := p.first + len(p.before); at < to; at++ {
		key := p.three(at)
		p.before = append(p.before, p.last[key]-1)
		p.last[key] = at + 1
	}
}

func (p *past) three(at int) int {
	return int(p.data[at]) | int(p.data[at+1])<<8 | int(p.data[at+2])<<16
}

// same: how many bytes, at most so many, are the same from both places on; 0, where they can't be more than length.
func (p *past) same(place, at, length, most int) int {
	if p.data[place+length] != p.data[at+length] {
		return 0
	}
	n := 0
	for n < most && p.data[place+n] == p.data[at+n] {
		n++
	}
	return n
}
