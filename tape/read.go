package tape

import (
	"strings"

	"ferret/api"
)

// reader takes heads, and what stands behind them, from an archive.
type reader struct {
	data  string
	at    int // the place of the next head
	files []File
	next  extras // of the next member alone
	all   extras // of all further members
	name  word   // of the next member
}

// word is a text that may be told; an empty one is told, too.
type word struct {
	text string
	told bool
}

// extras are what extended heads tell.
type extras struct {
	path, link, size, time word
}

// head is what a head tells by itself, its name and link still unread.
type head struct {
	block            string
	kind             byte
	size, mode, time int
}

// Read: the members of an archive.
func Read(data string) ([]File, api.Fault) {
	r := &reader{data: data}
	for !r.ended() {
		if fault := r.step(); fault.Code != api.OK {
			return nil, fault
		}
	}
	return r.files, api.Fault{}
}

func (r *reader) ended() bool {
	if r.at >= len(r.data) {
		return true
	}
	next := r.data[r.at:min(r.at+block, len(r.data))]
	return strings.Count(next, "\x00") == block
}

// fault at a place that is told from the head's on.
func (r *reader) fault(code api.Errno, from int) api.Fault {
	return api.Fault{Code: code, At: r.at + from}
}

// step takes a head and its data.
func (r *reader) step() api.Fault {
	h, fault := r.head()
	if fault.Code != api.OK {
		return fault
	}
	data, fault := r.dataOf(h)
	if fault.Code != api.OK {
		return fault
	}
	switch h.kind {
	case extended:
		fault = r.learn(&r.next, data)
	case global:
		fault = r.learn(&r.all, data)
	case longName:
		r.name = word{text: textOf(data), told: true}
	default:
		fault = r.member(h, data)
	}
	r.at += block + filled(len(data))
	return fault
}

func (r *reader) head() (head, api.Fault) {
	if len(r.data)-r.at < block {
		return head{}, r.fault(api.ErrEnd, 0)
	}
	h := head{block: r.data[r.at : r.at+block]}
	sum, ok := Number(sumField.of(h.block))
	if !ok {
		return head{}, r.fault(api.ErrNumber, sumField.From)
	}
	if sum != sumOf(h.block) {
		return head{}, r.fault(api.ErrSum, sumField.From)
	}
	h.kind = kindField.of(h.block)[0]
	if h.kind == 0 {
		h.kind = plain
	}
	if fault := r.numbers(&h); fault.Code != api.OK {
		return head{}, fault
	}
	if h.isMember() {
		if fault := r.toldNumbers(&h); fault.Code != api.OK {
			return head{}, fault
		}
	}
	return h, api.Fault{}
}

func (h head) isMember() bool {
	return h.kind != extended && h.kind != global && h.kind != longName
}

// numbers takes those of a head's own fields.
func (r *reader) numbers(h *head) api.Fault {
	var ok bool
	if h.size, ok = Number(sizeField.of(h.block)); !ok {
		return r.fault(api.ErrNumber, sizeField.From)
	}
	if h.mode, ok = Number(modeField.of(h.block)); !ok {
		return r.fault(api.ErrNumber, modeField.From)
	}
	if h.time, ok = Number(timeField.of(h.block)); !ok {
		return r.fault(api.ErrNumber, timeField.From)
	}
	return api.Fault{}
}

// toldNumbers puts what extended heads tell into the place of a member's own numbers.
func (r *reader) toldNumbers(h *head) api.Fault {
	var ok bool
	if size := firstTold(r.next.size, r.all.size); size.told {
		if h.size, ok = decimal(size.text); !ok {
			return r.fault(api.ErrNumber, sizeField.From)
		}
	}
	if time := firstTold(r.next.time, r.all.time); time.told {
		whole, _, _ := strings.Cut(time.text, ".")
		if h.time, ok = decimal(whole); !ok {
			return r.fault(api.ErrNumber, timeField.From)
		}
	}
	return api.Fault{}
}

// firstTold: the first of words that is told, if one is.
func firstTold(words ...word) word {
	for _, w := range words {
		if w.told {
			return w
		}
	}
	return word{}
}

// dataOf: what stands behind a head.
func (r *reader) dataOf(h head) (string, api.Fault) {
	if hasNoData(h.kind) {
		return "", api.Fault{}
	}
	rest := r.data[r.at+block:]
	if h.size > len(rest) {
		return "", r.fault(api.ErrEnd, block)
	}
	return rest[:h.size], api.Fault{}
}

// learn keeps what an extended head's data tells.
func (r *reader) learn(e *extras, data string) api.Fault {
	records, ok := Records(data)
	if !ok {
		return r.fault(api.ErrForm, block)
	}
	for _, record := range records {
		w := word{text: record[1], told: true}
		switch record[0] {
		case "path":
			e.path = w
		case "linkpath":
			e.link = w
		case "size":
			e.size = w
		case "mtime":
			e.time = w
		}
	}
	return api.Fault{}
}

func (r *reader) member(h head, data string) api.Fault {
	if len(r.files) == api.MaxMembers {
		return r.fault(api.ErrMany, 0)
	}
	f := File{Name: r.nameOf(h), Link: r.linkOf(h), Kind: h.kind, Mode: h.mode, Size: h.size, Time: h.time}
	if len(f.Name) > api.MaxName || len(f.Link) > api.MaxName {
		return r.fault(api.ErrLong, 0)
	}
	if f.Kind == plain {
		f.Data = data
	}
	r.files = append(r.files, f)
	r.next, r.name = extras{}, word{}
	return api.Fault{}
}

func (r *reader) nameOf(h head) string {
	if w := firstTold(r.next.path, r.name, r.all.path); w.told {
		return w.text
	}
	name := nameField.text(h.block)
	if prefix := prefixField.text(h.block); prefix != "" && strings.HasPrefix(markField.of(h.block), mark) {
		return prefix + "/" + name
	}
	return name
}

func (r *reader) linkOf(h head) string {
	if w := firstTold(r.next.link, r.all.link); w.told {
		return w.text
	}
	return linkField.text(h.block)
}
