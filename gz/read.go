package gz

import (
	"strings"

	"ferret/api"
	"ferret/inflate"
)

// reader takes parts from a file.
type reader struct {
	data string
	at   int // the place of the next byte
}

// Read: the parts of a file.
func Read(data string, most int) ([]Part, api.Fault) {
	if most < 0 {
		return nil, api.Fault{Code: api.ErrArg}
	}
	r := &reader{data: data}
	var parts []Part
	for len(parts) == 0 || r.at < len(data) {
		if len(parts) == api.MaxMembers {
			return nil, r.fault(api.ErrMany)
		}
		p, fault := r.part(most)
		if fault.Code != api.OK {
			return nil, fault
		}
		most -= len(p.Data)
		parts = append(parts, p)
	}
	return parts, api.Fault{}
}

func (r *reader) fault(code api.Errno) api.Fault {
	return api.Fault{Code: code, At: r.at}
}

// take: the next bytes; false and nothing taken, where so many aren't there.
func (r *reader) take(n int) (string, bool) {
	if n > len(r.data)-r.at {
		return "", false
	}
	s := r.data[r.at : r.at+n]
	r.at += n
	return s, true
}

func (r *reader) part(most int) (Part, api.Fault) {
	from := r.at
	p, flags, fault := r.fixedHead()
	if fault.Code != api.OK {
		return Part{}, fault
	}
	if fault := r.texts(&p, flags); fault.Code != api.OK {
		return Part{}, fault
	}
	if p.HeadSum {
		if fault := r.headSum(from); fault.Code != api.OK {
			return Part{}, fault
		}
	}
	p.Data, fault = r.packed(most)
	if fault.Code != api.OK {
		return Part{}, fault
	}
	return p, api.Fault{}
}

// fixedHead takes the bytes that each head has; the flags tell what follows.
func (r *reader) fixedHead() (Part, int, api.Fault) {
	if !Is(r.data[r.at:]) {
		return Part{}, 0, r.fault(api.ErrMagic)
	}
	from := r.at
	head, ok := r.take(fixed)
	if !ok {
		return Part{}, 0, r.fault(api.ErrEnd)
	}
	if head[2] != deflated {
		return Part{}, 0, api.Fault{Code: api.ErrMethod, At: from + 2}
	}
	flags := int(head[3])
	if flags&unknownFlags != 0 {
		return Part{}, 0, api.Fault{Code: api.ErrForm, At: from + 3}
	}
	return Part{
		Text:    flags&textFlag != 0,
		HeadSum: flags&headSumFlag != 0,
		Time:    number(head[4:8]),
		More:    int(head[8]),
		System:  int(head[9]),
	}, flags, api.Fault{}
}

// texts takes those that the flags tell of.
func (r *reader) texts(p *Part, flags int) api.Fault {
	var fault api.Fault
	if flags&extraFlag != 0 {
		p.Extra, fault = r.extra()
	}
	if fault.Code == api.OK && flags&nameFlag != 0 {
		p.Name, fault = r.name()
	}
	if fault.Code == api.OK && flags&commentFlag != 0 {
		p.Comment, fault = r.name()
	}
	return fault
}

func (r *reader) extra() (string, api.Fault) {
	// At the place of the size, also where bytes behind it are wanting.
	cut := r.fault(api.ErrEnd)
	size, ok := r.take(2)
	if !ok {
		return "", cut
	}
	s, ok := r.take(number(size))
	if !ok {
		return "", cut
	}
	return s, api.Fault{}
}

// name takes a text that a byte 00 ends.
func (r *reader) name() (string, api.Fault) {
	n := strings.IndexByte(r.data[r.at:], 0)
	if n < 0 {
		return "", r.fault(api.ErrEnd)
	}
	if n > api.MaxName {
		return "", r.fault(api.ErrLong)
	}
	s := r.data[r.at : r.at+n]
	r.at += n + 1
	return s, api.Fault{}
}

// headSum takes the sum of the head that begins at a place.
func (r *reader) headSum(from int) api.Fault {
	at := r.at
	told, ok := r.take(2)
	if !ok {
		return r.fault(api.ErrEnd)
	}
	if number(told) != lowSum(r.data[from:at]) {
		return api.Fault{Code: api.ErrSum, At: at}
	}
	return api.Fault{}
}

// packed takes what is packed, and the sums behind it.
func (r *reader) packed(most int) (string, api.Fault) {
	data, at, fault := inflate.Unpack(r.data, r.at, most)
	if fault.Code != api.OK {
		return "", fault
	}
	r.at = at
	sums, ok := r.take(8)
	if !ok {
		return "", r.fault(api.ErrEnd)
	}
	if number(sums[:4]) != Sum(data) {
		return "", api.Fault{Code: api.ErrSum, At: at}
	}
	if number(sums[4:]) != len(data) {
		return "", api.Fault{Code: api.ErrSize, At: at + 4}
	}
	return data, api.Fault{}
}

// number: of bytes, the lower ones first.
func number(s string) int {
	n := 0
	for i := range len(s) {
		n |= int(s[i]) << (8 * i)
	}
	return n
}
