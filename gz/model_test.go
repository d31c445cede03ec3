package gz

import (
	"slices"
	"strings"
	"testing"

	"ferret/api"
	"ferret/inflate"
)

// model reads by the document's words alone, and throws its faults.
type model struct {
	data string
	at   int
}

func (m *model) check(ok bool, code api.Errno, at int) {
	if !ok {
		panic(api.Fault{Code: code, At: at})
	}
}

func (m *model) number(at, size int) int {
	n := 0
	for i := size - 1; i >= 0; i-- {
		n = n*256 + int(m.data[at+i])
	}
	return n
}

func (m *model) zeroEnded() string {
	at := m.at
	for i := at; i < len(m.data); i++ {
		if m.data[i] == 0 {
			m.check(i-at <= 256, api.ErrLong, at)
			m.at = i + 1
			return m.data[at:i]
		}
	}
	m.check(false, api.ErrEnd, at)
	return ""
}

func (m *model) part(most int) Part {
	p, left := m.at, len(m.data)-m.at
	m.check(left >= 2 && m.data[p] == 0x1F && m.data[p+1] == 0x8B, api.ErrMagic, p)
	m.check(left >= 10, api.ErrEnd, p)
	m.check(m.data[p+2] == 8, api.ErrMethod, p+2)
	flags := m.data[p+3]
	m.check(flags < 32, api.ErrForm, p+3)
	part := Part{Time: m.number(p+4, 4), More: m.number(p+8, 1), System: m.number(p+9, 1)}
	part.Text, part.HeadSum = flags%2 == 1, flags/2%2 == 1
	m.at = p + 10
	if flags/4%2 == 1 {
		m.check(m.at+2 <= len(m.data), api.ErrEnd, m.at)
		end := m.at + 2 + m.number(m.at, 2)
		m.check(end <= len(m.data), api.ErrEnd, m.at)
		part.Extra = m.data[m.at+2 : end]
		m.at = end
	}
	if flags/8%2 == 1 {
		part.Name = m.zeroEnded()
	}
	if flags/16%2 == 1 {
		part.Comment = m.zeroEnded()
	}
	if part.HeadSum {
		m.check(m.at+2 <= len(m.data), api.ErrEnd, m.at)
		m.check(m.number(m.at, 2) == wordSum(m.data[p:m.at])%65536, api.ErrSum, m.at)
		m.at += 2
	}
	data, end, f := inflate.Unpack(m.data, m.at, most)
	m.check(f.Code == api.OK, f.Code, f.At)
	m.check(end+8 <= len(m.data), api.ErrEnd, end)
	m.check(m.number(end, 4) == wordSum(data), api.ErrSum, end)
	m.check(m.number(end+4, 4) == len(data), api.ErrSize, end+4)
	m.at = end + 8
	part.Data = data
	return part
}

func modelRead(data string, most int) (parts []Part, f api.Fault) {
	m := &model{data: data}
	defer func() {
		if thrown := recover(); thrown != nil {
			parts, f = nil, thrown.(api.Fault)
		}
	}()
	m.check(most >= 0, api.ErrArg, 0)
	for first := true; first || m.at < len(data); first = false {
		m.check(len(parts) < 1024, api.ErrMany, m.at)
		parts = append(parts, m.part(most))
		most -= len(parts[len(parts)-1].Data)
	}
	return parts, api.Fault{}
}

// Hostile bytes: those of a file with some bits turned, put in, taken out or cut off.
func TestReadOfHostileBytes(t *testing.T) {
	c := chance(4)
	met := map[api.Errno]int{}
	for range 6000 {
		parts, choices := someParts(c)
		for i := range parts {
			if c.IntN(2) == 0 {
				parts[i].Data = "ab"
			}
			if c.IntN(8) > 0 {
				parts[i].Extra = ""
			}
			if c.IntN(40) == 0 {
				parts[i].Name = strings.Repeat("n", api.MaxName)
			}
		}
		file, _ := Write(parts[:1+c.IntN(len(parts))], choices)
		data := []byte(file)
		for range c.IntN(3) {
			at := c.IntN(len(data))
			if c.IntN(2) == 0 {
				at = c.IntN(min(len(data), 24)) // heads have most of the faults
			}
			switch c.IntN(4) {
			case 0:
				data = slices.Insert(data, at, byte(c.IntN(256)))
			case 1:
				data = slices.Delete(data, at, at+1)
			default:
				data[at] ^= 1 << c.IntN(8)
			}
		}
		if c.IntN(4) == 0 {
			data = data[:c.IntN(len(data)+1)]
		}
		most := c.IntN(20000)
		got, f := Read(string(data), most)
		want, wf := modelRead(string(data), most)
		if !slices.Equal(got, want) || f != wf {
			t.Fatalf("%x, most %d: %v, %v, want %v, %v", data, most, got, f, want, wf)
		}
		met[f.Code]++
	}
	for _, code := range []api.Errno{api.OK, api.ErrMagic, api.ErrEnd, api.ErrMethod, api.ErrForm, api.ErrLong, api.ErrSum, api.ErrSize, api.ErrFar} {
		if met[code] == 0 {
			t.Errorf("error %d isn't met: %v", code, met)
		}
	}
}
