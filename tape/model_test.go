package tape

import (
	"math/rand/v2"
	"regexp"
	"slices"
	"strconv"
	"strings"
	"testing"

	"ferret/api"
)

// model reads by the document's words alone, and throws its faults.
type model struct {
	data    string
	p       int
	x, g    map[string]string
	l       []string // L's name, if there is one
	members []File
}

func (m *model) check(ok bool, code api.Errno, at int) {
	if !ok {
		panic(api.Fault{Code: code, At: at})
	}
}

func (m *model) field(at, size int) string {
	return m.data[m.p+at : m.p+at+size]
}

func (m *model) number(at, size int) int {
	n, ok := Number(m.field(at, size))
	m.check(ok, api.ErrNumber, m.p+at)
	return n
}

func upToZero(s string) string {
	if i := strings.Index(s, "\x00"); i >= 0 {
		return s[:i]
	}
	return s
}

// told by x, or else by g
func (m *model) told(key string) (string, bool) {
	if v, ok := m.x[key]; ok {
		return v, true
	}
	v, ok := m.g[key]
	return v, ok
}

var (
	sizeForm = regexp.MustCompile(`^([0-9]{1,12})$`)
	timeForm = regexp.MustCompile(`(?s)^([0-9]{1,12})(\..*)?$`)
)

func (m *model) toldNumber(key string, form *regexp.Regexp, at, otherwise int) int {
	v, ok := m.told(key)
	if !ok {
		return otherwise
	}
	found := form.FindStringSubmatch(v)
	m.check(found != nil && (key != "size" || found[0] == v), api.ErrNumber, m.p+at)
	n, _ := strconv.Atoi(found[1])
	return n
}

func (m *model) head() {
	m.check(len(m.data) >= m.p+512, api.ErrEnd, m.p)
	sum := 0
	for i := range 512 {
		if i >= 148 && i < 156 {
			sum += 0x20
		} else {
			sum += int(m.data[m.p+i])
		}
	}
	m.check(m.number(148, 8) == sum, api.ErrSum, m.p+148)
	size, mode, time := m.number(124, 12), m.number(100, 8), m.number(136, 12)
	kind := m.data[m.p+156]
	if kind == 0 {
		kind = '0'
	}
	isMember := kind != 'x' && kind != 'g' && kind != 'L'
	if isMember {
		size = m.toldNumber("size", sizeForm, 124, size)
		time = m.toldNumber("mtime", timeForm, 136, time)
	}
	data := ""
	if !strings.Contains("123456", string(rune(kind))) {
		m.check(len(m.data)-m.p-512 >= size, api.ErrEnd, m.p+512)
		data = m.data[m.p+512 : m.p+512+size]
	}
	switch kind {
	case 'x', 'g':
		records, ok := Records(data)
		m.check(ok, api.ErrForm, m.p+512)
		for _, r := range records {
			if kind == 'x' {
				m.x[r[0]] = r[1]
			} else {
				m.g[r[0]] = r[1]
			}
		}
	case 'L':
		m.l = []string{upToZero(data)}
	default:
		m.member(File{Kind: kind, Mode: mode, Size: size, Time: time, Data: data})
	}
	m.p += 512 + len(data)
	for m.p%512 > 0 {
		m.p++
	}
}

func (m *model) member(f File) {
	m.check(len(m.members) < 1024, api.ErrMany, m.p)
	f.Name = upToZero(m.field(0, 100))
	if prefix := upToZero(m.field(345, 155)); m.field(257, 5) == "ustar" && len(prefix) > 0 {
		f.Name = prefix + "/" + f.Name
	}
	if path, ok := m.g["path"]; ok {
		f.Name = path
	}
	if len(m.l) > 0 {
		f.Name = m.l[0]
	}
	if path, ok := m.x["path"]; ok {
		f.Name = path
	}
	f.Link = upToZero(m.field(157, 100))
	if link, ok := m.told("linkpath"); ok {
		f.Link = link
	}
	m.check(len(f.Name) <= 256 && len(f.Link) <= 256, api.ErrLong, m.p)
	if f.Kind != '0' {
		f.Data = ""
	}
	m.members = append(m.members, f)
	m.x, m.l = map[string]string{}, nil
}

func modelRead(data string) (files []File, f api.Fault) {
	m := &model{data: data, x: map[string]string{}, g: map[string]string{}}
	defer func() {
		if thrown := recover(); thrown != nil {
			files, f = nil, thrown.(api.Fault)
		}
	}()
	for m.p < len(data) && !strings.HasPrefix(data[m.p:], zeros(512)) {
		m.head()
	}
	return m.members, api.Fault{}
}

func pick(c *rand.Rand, list ...string) string {
	return list[c.IntN(len(list))]
}

// someRecord: numbers are rarely wrong, names often near the edge.
func someRecord(c *rand.Rand) string {
	switch c.IntN(8) {
	case 0:
		return record("comment", some(c, "ab=\n", 20))
	case 1:
		return record("size", pick(c, "0", "3", "513", "000000000000", "0000000000000", "5.5", ""))
	case 2, 3:
		return record("mtime", pick(c, "0", "3", "5.5", "12.", "999999999999.x", "0000000000000", ".5"))
	}
	return record(pick(c, "path", "linkpath"), pick(c, "", "new", "a/b", strings.Repeat("n", 254+c.IntN(5))))
}

// someHead: of any kind, most of them right.
func someHead(c *rand.Rand) string {
	kind := pick(c, "0", "0", "\x00", "1", "5", "6", "7", "x", "x", "g", "L", "K")
	data := some(c, "ab\x00\n", 700)
	if kind == "x" || kind == "g" {
		data = ""
		for range c.IntN(4) {
			data += someRecord(c)
		}
		if c.IntN(20) == 0 {
			data += some(c, "5 a=\n", 6)
		}
	}
	h := raw{0: some(c, "abc/", 100), 124: octal(len(data), 11), 156: kind}
	for range c.IntN(4) {
		switch c.IntN(8) {
		case 0:
			h[100] = pick(c, "0000644\x00", " 7", "7\x00 ", "0", "00 \x00", "x", "\x80\x00\x00\x00\x00\x00\x00\x07")
		case 1:
			h[136] = pick(c, "00000000012\x00", "12 ", " 7", "0", "9", "\x8f\x00")
		case 2, 3:
			h[345] = some(c, "pq/\x00", 160)
			h[257] = pick(c, "ustar\x0000", "ustar  ", "ustaR\x00", "ustar\x0000")
		case 4:
			h[157] = some(c, "lm/\x00", 100)
		case 5:
			if c.IntN(6) == 0 {
				h[124] = pick(c, "8", "1", "0", "77777777777", "\x80\x00\x00\x00\x00\x00\x01\x00\x00\x00\x00\x01")
			}
		}
	}
	if kind[0] >= '1' && kind[0] <= '6' {
		data = ""
	}
	return h.bytes() + fill(data)
}

// Hostile bytes: heads that tell anything, some bytes turned, or cut off.
func TestReadOfHostileBytes(t *testing.T) {
	c := chance(5)
	met := map[api.Errno]int{}
	members := 0
	for range 6000 {
		var b []byte
		for range 1 + c.IntN(7) {
			b = append(b, someHead(c)...)
		}
		if c.IntN(10) == 0 {
			b[c.IntN(len(b))] ^= 1 << c.IntN(8)
		}
		if c.IntN(10) == 0 {
			b[148+c.IntN(8)] = byte(c.IntN(256))
		}
		if c.IntN(10) == 0 {
			b = b[:c.IntN(len(b)+1)]
		}
		if c.IntN(10) == 0 {
			b = append(b, zeros(512)...)
		}
		got, f := Read(string(b))
		want, wf := modelRead(string(b))
		if !slices.Equal(got, want) || f != wf {
			t.Fatalf("%q: %v, %v, want %v, %v", b, got, f, want, wf)
		}
		met[f.Code]++
		members += len(got)
	}
	for _, code := range []api.Errno{api.OK, api.ErrEnd, api.ErrNumber, api.ErrSum, api.ErrForm, api.ErrLong} {
		if met[code] < 20 {
			t.Errorf("error %d is hardly met: %v", code, met)
		}
	}
	if members < 1000 {
		t.Errorf("%d members", members)
	}
}
