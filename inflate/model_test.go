package inflate

import (
	"bytes"
	"compress/flate"
	"strings"
	"testing"

	"ferret/api"
)

// model unpacks by the document's words alone, bit by bit, and throws its errors.
type model struct {
	bits []int
	at   int
	out  []byte
	most int
}

func (m *model) take(n int) int {
	if m.at+n > len(m.bits) {
		panic(api.ErrEnd)
	}
	v := 0
	for i := range n {
		v += m.bits[m.at+i] << i
	}
	m.at += n
	return v
}

func (m *model) takeBytes(n int) string {
	start := (m.at + 7) / 8 * 8
	if start+8*n > len(m.bits) {
		panic(api.ErrEnd)
	}
	m.at = start
	b := make([]byte, n)
	for i := range b {
		b[i] = byte(m.take(8))
	}
	return string(b)
}

// modelCodes: symbols by their codes, written as texts of 0 and 1.
func modelCodes(lengths []int) map[string]int {
	room, codes := 0, 0
	for _, n := range lengths {
		if n > 0 {
			room += 1 << (15 - n)
			codes++
		}
	}
	if room > 1<<15 {
		panic(api.ErrOver)
	}
	if room < 1<<15 && codes > 0 && (codes > 1 || room != 1<<14) {
		panic(api.ErrUnder)
	}
	b := bookOf(lengths...)
	m := map[string]int{}
	for symbol, n := range lengths {
		if n > 0 {
			text := ""
			for i := range n {
				text += string(rune('0' + b.codes[symbol]>>(n-1-i)&1))
			}
			m[text] = symbol
		}
	}
	return m
}

func (m *model) symbol(codes map[string]int) int {
	text := ""
	for i := m.at; ; i++ {
		if s, ok := codes[text]; ok {
			m.at = i
			return s
		}
		goesOn := false
		for c := range codes {
			goesOn = goesOn || strings.HasPrefix(c, text)
		}
		if !goesOn {
			panic(api.ErrCode)
		}
		if i == len(m.bits) {
			panic(api.ErrEnd)
		}
		text += string(rune('0' + m.bits[i]))
	}
}

func (m *model) heads() (map[string]int, map[string]int) {
	l, d, c := m.take(5), m.take(5), m.take(4)
	if l > 29 || d > 29 {
		panic(api.ErrCode)
	}
	short := make([]int, 19)
	for i := range c + 4 {
		short[headOrder[i]] = m.take(3)
	}
	codes := modelCodes(short)
	var told []int
	for len(told) < l+257+d+1 {
		s := m.symbol(codes)
		times := 1
		switch s {
		case 16:
			if len(told) == 0 {
				panic(api.ErrCode)
			}
			s, times = told[len(told)-1], 3+m.take(2)
		case 17:
			s, times = 0, 3+m.take(3)
		case 18:
			s, times = 0, 11+m.take(7)
		}
		for range times {
			told = append(told, s)
		}
		if len(told) > l+257+d+1 {
			panic(api.ErrCode)
		}
	}
	if told[256] == 0 {
		panic(api.ErrCode)
	}
	literals := modelCodes(told[:l+257])
	return literals, modelCodes(told[l+257:])
}

func (m *model) check(ok bool, err api.Errno) {
	if !ok {
		panic(err)
	}
}

func (m *model) block() {
	var literals, distances map[string]int
	switch m.take(2) {
	case 0:
		s := m.takeBytes(2)
		x := m.takeBytes(2)
		m.check(s[0]^x[0] == 255 && s[1]^x[1] == 255, api.ErrSize)
		n := int(s[0]) + 256*int(s[1])
		m.check(len(m.out)+n <= m.most, api.ErrLong)
		m.out = append(m.out, m.takeBytes(n)...)
		return
	case 1:
		lengths := make([]int, 288)
		for i := range lengths {
			switch {
			case i <= 143 || i >= 280:
				lengths[i] = 8
			case i <= 255:
				lengths[i] = 9
			default:
				lengths[i] = 7
			}
		}
		literals = modelCodes(lengths)
		distances = modelCodes([]int{5, 5, 5, 5, 5, 5, 5, 5, 5, 5, 5, 5, 5, 5, 5, 5, 5, 5, 5, 5, 5, 5, 5, 5, 5, 5, 5, 5, 5, 5, 5, 5})
	case 2:
		literals, distances = m.heads()
	case 3:
		panic(api.ErrBlock)
	}
	for {
		s := m.symbol(literals)
		if s == 256 {
			return
		}
		if s < 256 {
			m.check(len(m.out) < m.most, api.ErrLong)
			m.out = append(m.out, byte(s))
			continue
		}
		m.check(s < 286, api.ErrCode)
		length, more, _ := Length(s)
		length += m.take(more)
		s = m.symbol(distances)
		m.check(s < 30, api.ErrCode)
		distance, more, _ := Distance(s)
		distance += m.take(more)
		m.check(distance <= len(m.out), api.ErrFar)
		m.check(len(m.out)+length <= m.most, api.ErrLong)
		for range length {
			m.out = append(m.out, m.out[len(m.out)-distance])
		}
	}
}

func modelUnpack(data string, from, most int) (out string, end int, f api.Fault) {
	m := &model{most: most}
	for _, b := range []byte(data[from:]) {
		for i := range 8 {
			m.bits = append(m.bits, int(b>>i&1))
		}
	}
	defer func() {
		if err, ok := recover().(api.Errno); ok {
			out, end, f = "", 0, api.Fault{Code: err, At: from + m.at/8}
		}
	}()
	for last := 0; last == 0; {
		last = m.take(1)
		m.block()
	}
	return string(m.out), from + (m.at+7)/8, api.Fault{}
}

func flated(t *testing.T, text string, level int) string {
	t.Helper()
	var b bytes.Buffer
	w, err := flate.NewWriter(&b, level)
	if err != nil {
		t.Fatal(err)
	}
	w.Write([]byte(text))
	w.Close()
	return b.String()
}

// someText has words that come again, and bytes that don't.
func someText(c *chance, size int) string {
	var b []byte
	for len(b) < size {
		switch c.below(4) {
		case 0:
			b = append(b, byte(c.below(256)))
		case 1:
			b = append(b, "the ferret "[c.below(6):]...)
		case 2:
			b = append(b, strings.Repeat(string(rune('a'+c.below(26))), c.below(40))...)
		default:
			if n := len(b); n > 0 {
				at := c.below(n)
				b = append(b, b[at:min(n, at+c.below(300))]...)
			}
		}
	}
	return string(b[:size])
}

var levels = []int{flate.NoCompression, flate.BestSpeed, 5, flate.BestCompression, flate.HuffmanOnly}

// What another packer packs.
func TestUnpackOfAnotherPacker(t *testing.T) {
	c := chance(2)
	for _, size := range []int{0, 1, 2, 10, 100, 1000, 40000, 200000} {
		text := someText(&c, size)
		for _, level := range levels {
			data := flated(t, text, level)
			if s, n, f := Unpack("xyz"+data+"rest", 3, size); s != text || n != 3+len(data) || f != (api.Fault{}) {
				t.Errorf("%d bytes, level %d: %d bytes, %d, %v", size, level, len(s), n, f)
			}
			if size > 0 {
				if s, n, f := Unpack(data, 0, size-1); s != "" || n != 0 || f.Code != api.ErrLong {
					t.Errorf("%d bytes, level %d, one fewer: %d bytes, %d, %v", size, level, len(s), n, f)
				}
			}
		}
	}
}

func sameAsModel(t *testing.T, data string, from, most int) api.Errno {
	t.Helper()
	s, n, f := Unpack(data, from, most)
	ms, mn, mf := modelUnpack(data, from, most)
	if s != ms || n != mn || f != mf {
		t.Fatalf("%x from %d, most %d: %q, %d, %v, want %q, %d, %v", data, from, most, s, n, f, ms, mn, mf)
	}
	return f.Code
}

// Hostile bytes: those of a packer with some bits turned, some cut off, or any at all.
func TestUnpackOfHostileBytes(t *testing.T) {
	c := chance(3)
	met := map[api.Errno]int{}
	for range 1500 {
		data := []byte(flated(t, someText(&c, c.below(200)), levels[c.below(len(levels))]))
		for range c.below(3) {
			i := c.below(8 * min(len(data), 1+c.below(len(data))))
			data[i/8] ^= 1 << (i % 8)
		}
		if c.below(3) == 0 {
			data = data[:c.below(len(data)+1)]
		}
		most := 1000
		if c.below(4) == 0 {
			most = c.below(200)
		}
		met[sameAsModel(t, string(data), min(c.below(9)/7, len(data)), most)]++
	}
	for range 3000 {
		data := make([]byte, c.below(120))
		for i := range data {
			data[i] = byte(c.below(256))
		}
		if len(data) > 0 && c.below(4) > 0 {
			data[0] = data[0]&^7 | byte(c.below(2)) | byte(1+c.below(2))<<1 // kind 1 or 2
		}
		met[sameAsModel(t, string(data), 0, c.below(400))]++
	}
	for _, code := range []api.Errno{api.OK, api.ErrEnd, api.ErrLong, api.ErrCode, api.ErrOver, api.ErrUnder, api.ErrBlock, api.ErrFar, api.ErrSize} {
		if met[code] == 0 {
			t.Errorf("error %d isn't met", code)
		}
	}
}

// Very many small blocks are no more work than their bytes.
func TestUnpackOfManyBlocks(t *testing.T) {
	s := &stream{}
	for range 200000 {
		s.block(0, 1)
		s.fixed(256)
	}
	s.block(1, 1)
	s.fixed(256)
	if x, n, f := Unpack(s.All(), 0, 0); x != "" || n != len(s.All()) || f != (api.Fault{}) {
		t.Errorf("%q, %d, %v", x, n, f)
	}
}
