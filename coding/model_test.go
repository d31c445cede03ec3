package coding

import (
	"math/rand/v2"
	"slices"
	"strings"
	"testing"
	"unicode/utf16"
	"unicode/utf8"

	"ferret/api"
)

// modelUTF8: how many bytes are taken, and whether they are a scalar, by the document's words alone.
func modelUTF8(data string) (int, bool) {
	in := func(i int, low, high byte) bool { return i < len(data) && low <= data[i] && data[i] <= high }
	need := 0
	switch {
	case in(0, 0, 0x7F):
		return 1, true
	case in(0, 0xC2, 0xDF):
		need = 2
	case in(0, 0xE0, 0xEF):
		need = 3
	case in(0, 0xF0, 0xF4):
		need = 4
	default:
		return 1, false
	}
	n := 1
	for n < need && in(n, 0x80, 0xBF) {
		wrong := n == 1 && (data[0] == 0xE0 && data[1] < 0xA0 || data[0] == 0xED && data[1] > 0x9F ||
			data[0] == 0xF0 && data[1] < 0x90 || data[0] == 0xF4 && data[1] > 0x8F)
		if wrong {
			break
		}
		n++
	}
	return n, n == need
}

// modelUnits: the same of two bytes a number, the higher one first.
func modelUnits(data string) (int, bool) {
	if len(data) == 1 {
		return 1, false
	}
	at := func(i int) rune { return rune(data[i])<<8 + rune(data[i+1]) }
	if !utf16.IsSurrogate(at(0)) {
		return 2, true
	}
	if len(data) >= 4 && utf16.DecodeRune(at(0), at(2)) != utf8.RuneError {
		return 4, true
	}
	return 2, false
}

func swapped(s string) string {
	b := []byte(s)
	for i := 0; i+1 < len(b); i += 2 {
		b[i], b[i+1] = b[i+1], b[i]
	}
	return string(b)
}

// modelScalar: of bytes that are one.
func modelScalar(s string, coding int) int {
	switch coding {
	case UTF8:
		r, _ := utf8.DecodeRuneInString(s)
		return int(r)
	case Latin1:
		return int(s[0])
	}
	var l []uint16
	for i := 0; i < len(s); i += 2 {
		l = append(l, uint16(s[i])<<8|uint16(s[i+1]))
	}
	return int(utf16.Decode(l)[0])
}

func modelDecode(data string, coding int, strict bool) (Text, api.Fault) {
	at := 0
	for c, mark := range []string{1: "\xEF\xBB\xBF", 2: "\xFF\xFE", 3: "\xFE\xFF"} {
		if mark != "" && strings.HasPrefix(data, mark) && (coding == 0 || coding == c) {
			coding, at = c, len(mark)
		}
	}
	if coding == 0 {
		coding = 1
	}
	if coding == 2 {
		data = swapped(data)
	}
	text := Text{Coding: coding}
	for at < len(data) {
		n, ok := 1, true
		switch coding {
		case 1:
			n, ok = modelUTF8(data[at:])
		case 2, 3:
			n, ok = modelUnits(data[at:])
		}
		if !ok && strict {
			return Text{}, api.Fault{Code: api.ErrText, At: at}
		}
		r := 0xFFFD
		if ok {
			r = modelScalar(data[at:at+n], coding)
		} else {
			text.Bad++
		}
		text.Runes, text.Places = append(text.Runes, r), append(text.Places, at)
		at += n
	}
	text.Places = append(text.Places, at)
	return text, api.Fault{}
}

func checkDecode(t *testing.T, data string) {
	t.Helper()
	for coding := range 5 {
		for _, strict := range []bool{false, true} {
			x, f := Decode(data, coding, strict)
			want, fault := modelDecode(data, coding, strict)
			if f != fault || !sameText(x, want) {
				t.Fatalf("Decode(%x, %d, %v) = %v, %v; want %v, %v", data, coding, strict, x, f, want, fault)
			}
		}
	}
}

func TestDecodeAsTheModelSays(t *testing.T) {
	r := rand.New(rand.NewPCG(7, 2))
	borders := "\x00a\x7F\x80\x8F\x90\x9F\xA0\xBB\xBF\xC0\xC1\xC2\xD7\xD8\xDB\xDC\xDF\xE0\xE1\xEC\xED\xEE\xEF\xF0\xF1\xF3\xF4\xF5\xFE\xFF"
	for range 40000 {
		b := make([]byte, r.IntN(10))
		for i := range b {
			b[i] = borders[r.IntN(len(borders))]
			if r.IntN(8) == 0 {
				b[i] = byte(r.Uint32())
			}
		}
		checkDecode(t, string(b))
	}
}

func TestDecodeOfAllShortTexts(t *testing.T) {
	thirds := "\x00\x7F\x80\xBF\xC0"
	for a := range 256 {
		checkDecode(t, string([]byte{byte(a)}))
		for b := range 256 {
			two := string([]byte{byte(a), byte(b)})
			checkDecode(t, two)
			if a < 0xC0 {
				continue
			}
			for i := range len(thirds) {
				checkDecode(t, two+thirds[i:i+1])
				checkDecode(t, two+thirds[i:i+1]+"\x80")
			}
		}
	}
}

// allScalars has FEFF not at its beginning.
func allScalars() []int {
	var l []int
	for r := range 0x110000 {
		if r < 0xD800 || r > 0xDFFF {
			l = append(l, r)
		}
	}
	return l
}

func TestAllScalarsAreEncodedAsElsewhere(t *testing.T) {
	l := allScalars()
	var plain strings.Builder
	var units []uint16
	for _, r := range l {
		plain.WriteRune(rune(r))
		units = utf16.AppendRune(units, rune(r))
	}
	var big strings.Builder
	for _, u := range units {
		big.WriteByte(byte(u >> 8))
		big.WriteByte(byte(u))
	}
	for coding, want := range map[int]string{UTF8: plain.String(), Big: big.String(), Little: swapped(big.String())} {
		if s, e := Encode(l, coding, false); e != api.OK || s != want {
			t.Errorf("coding %d: other bytes, %v", coding, e)
		}
	}
}

func TestNoOtherNumberIsEncoded(t *testing.T) {
	for r := -300; r < 0x110000+300; r++ {
		if 0 <= r && r < 0xD800 || 0xDFFF < r && r < 0x110000 {
			continue
		}
		for coding := UTF8; coding <= Latin1; coding++ {
			if s, e := Encode([]int{r}, coding, false); e != api.ErrText || s != "" {
				t.Fatalf("Encode(%x, %d) = %x, %v", r, coding, s, e)
			}
		}
	}
}

func TestDecodeOfEncode(t *testing.T) {
	lists := [][]int{nil, allScalars(), {0xFEFF}, {0xFEFF, 'a'}, {0xFEFF, 0xFEFF, 'a'}, {'a', 0xFEFF}, {0xFFFE, 'a'}, {0x10FFFF}, {0xBBEF, 0xBF}}
	for _, l := range lists {
		for coding := UTF8; coding <= Big; coding++ {
			for _, mark := range []bool{false, true} {
				s, e := Encode(l, coding, mark)
				x, f := Decode(s, coding, true)
				want := l
				if !mark && len(l) > 0 && l[0] == 0xFEFF {
					want = l[1:]
				}
				if e != api.OK || f != (api.Fault{}) || x.Coding != coding || x.Bad != 0 || !slices.Equal(x.Runes, want) {
					t.Errorf("%d scalars, coding %d, mark %v: %v, %v", len(l), coding, mark, e, f)
				}
				if y, _ := Decode(s, Auto, true); mark && !sameText(x, y) {
					t.Errorf("%d scalars, coding %d: Auto tells otherwise", len(l), coding)
				}
			}
		}
	}
}

func TestDecodeOfEncodeInLatin1(t *testing.T) {
	var all []int
	for r := range 256 {
		all = append(all, r)
	}
	for _, l := range [][]int{nil, all, {0xEF, 0xBB, 0xBF, 'a'}, {0xFF, 0xFE}, {0xFE, 0xFF}} {
		for _, mark := range []bool{false, true} {
			s, e := Encode(l, Latin1, mark)
			x, f := Decode(s, Latin1, true)
			if e != api.OK || f != (api.Fault{}) || x.Coding != Latin1 || !slices.Equal(x.Runes, l) || len(s) != len(l) {
				t.Errorf("Latin1, %x: %v, %v, %v", l, x, e, f)
			}
		}
	}
}
