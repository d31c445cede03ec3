package json

import (
	"bytes"
	library "encoding/json"
	"errors"
	"io"
	"math/rand/v2"
	"strconv"
	"strings"
	"testing"
	"unicode/utf8"

	"ferret/api"
)

// badSize: how many bytes of what is no scalar are taken, by the library's way to ask whether more bytes could help.
func badSize(s string) int {
	size := 1
	if utf8.FullRuneInString(s[:1]) {
		return size
	}
	for size < len(s) && !utf8.FullRuneInString(s[:size+1]) {
		size++
	}
	return size
}

// firstBad: the place of the first byte that isn't UTF-8; -1: there is none.
func firstBad(s string) int {
	for i, r := range s {
		if _, size := utf8.DecodeRuneInString(s[i:]); r == utf8.RuneError && size == 1 {
			return i
		}
	}
	return -1
}

func quoteByWords(s string) string {
	short := map[rune]string{'"': `\"`, '\\': `\\`, 8: `\b`, 9: `\t`, 10: `\n`, 12: `\f`, 13: `\r`}
	out := `"`
	for s != "" {
		r, size := utf8.DecodeRuneInString(s)
		if r == utf8.RuneError && size == 1 {
			size = badSize(s)
		}
		switch {
		case short[r] != "":
			out += short[r]
		case r < 0x20:
			out += `\u` + strconv.FormatInt(int64(r)+0x10000, 16)[1:]
		default:
			out += string(r)
		}
		s = s[size:]
	}
	return out + `"`
}

// valueByLibrary reads what is right as the library does, token by token.
func valueByLibrary(t *testing.T, text string) Value {
	t.Helper()
	d := library.NewDecoder(strings.NewReader(text))
	d.UseNumber()
	v := nextByLibrary(t, d)
	if _, err := d.Token(); !errors.Is(err, io.EOF) {
		t.Fatalf("%q: the library goes on: %v", text, err)
	}
	return v
}

func nextByLibrary(t *testing.T, d *library.Decoder) Value {
	t.Helper()
	token, err := d.Token()
	if err != nil {
		t.Fatal(err)
	}
	switch x := token.(type) {
	case bool:
		return map[bool]Value{false: no, true: yes}[x]
	case library.Number:
		return number(string(x))
	case string:
		return says(x)
	case library.Delim:
		v := Value{Kind: map[library.Delim]int{'[': List, '{': Object}[x]}
		for d.More() {
			if v.Kind == Object {
				v.Keys = append(v.Keys, nextByLibrary(t, d).Text)
			}
			v.Kids = append(v.Kids, nextByLibrary(t, d))
		}
		if _, err := d.Token(); err != nil {
			t.Fatal(err)
		}
		return v
	}
	return null
}

// rules: what may stand for a part of a value, by its name: each way begins with the bytes ahead of a blank, and goes on with what is behind it. The way "else" takes no byte.
// A part is one letter; a byte that must be there has ' ahead of it.
var rules = map[byte][]string{
	'V': {"\t\n\r\x20 V", "n 'u'l'lB", "t 'r'u'eB", "f 'a'l's'eB", "\" SB", "- IB", "0 PB", "123456789 JB", "[ L", "{ O"},
	'B': {"\t\n\r\x20 B", "else"},
	// numbers
	'I': {"0 P", "123456789 J"},
	'J': {"0123456789 J", "elseP"},
	'P': {". FG", "elseE"},
	'F': {"0123456789 "},
	'G': {"0123456789 G", "elseE"},
	'E': {"eE M", "else"},
	'M': {"+- FD", "0123456789 D"},
	'D': {"0123456789 D", "else"},
	// texts
	'S': {"\" ", "\\ XS", "any S"},
	'X': {"\"\\/bfnrt ", "u HHHH"},
	'H': {"0123456789abcdefABCDEF "},
	// rows: L and O stand behind a bracket, N and Q behind a value
	'L': {"\t\n\r\x20 L", "] B", "elseVN"},
	'N': {", VN", "] B"},
	'O': {"\t\n\r\x20 O", "} B", "\" SKVQ"},
	'K': {"\t\n\r\x20 K", ": "},
	'Q': {", RSKVQ", "} B"},
	'R': {"\t\n\r\x20 R", "\" "},
}

// way: the way on of a part with a byte, and whether it takes that; false: there is none.
func way(part byte, c int) (string, bool, bool) {
	for _, rule := range rules[part] {
		if behind, ok := strings.CutPrefix(rule, "else"); ok {
			return behind, false, true
		}
		split := strings.LastIndexByte(rule, ' ')
		first, behind := rule[:split], rule[split+1:]
		if first == "any" && c >= 0x20 || first != "any" && c >= 0 && strings.IndexByte(first, byte(c)) >= 0 {
			return behind, true, true
		}
	}
	return "", false, false
}

// faultByWords goes byte by byte with the row of parts that are still to come.
func faultByWords(text string) api.Fault {
	if len(text) > api.MaxOut {
		return api.Fault{Code: api.ErrLong}
	}
	if place := firstBad(text); place >= 0 {
		return bad(place)
	}
	coming := []byte{'V'} // the last one is the next
	depth := 0
	for at := 0; at <= len(text); at++ {
		c := -1
		if at < len(text) {
			c = int(text[at])
		}
		for taken := false; !taken; {
			if len(coming) == 0 {
				if c < 0 {
					return right
				}
				return wrong(at)
			}
			part := coming[len(coming)-1]
			coming = coming[:len(coming)-1]
			if part >= 0x80 { // a byte that must be there
				if int(part-0x80) != c {
					return wrong(at)
				}
				taken = true
				continue
			}
			behind, takes, ok := way(part, c)
			if !ok {
				return wrong(at)
			}
			if takes && part == 'V' && (c == '[' || c == '{') {
				if depth == api.MaxNest {
					return nested(at)
				}
				depth++
			}
			if takes && strings.IndexByte("LNOQ", part) >= 0 && (c == ']' || c == '}') {
				depth--
			}
			coming = push(coming, behind)
			taken = takes
		}
	}
	panic("the end was passed over")
}

// push lays parts so that the first is the next.
func push(coming []byte, behind string) []byte {
	var parts []byte
	for i := 0; i < len(behind); i++ {
		if behind[i] == '\'' {
			i++
			parts = append(parts, behind[i]+0x80)
		} else {
			parts = append(parts, behind[i])
		}
	}
	for i := len(parts) - 1; i >= 0; i-- {
		coming = append(coming, parts[i])
	}
	return coming
}

var blanks = []string{"", "", "", "", " ", "\n", "\t\r", "  "}

func someOf(source *rand.Rand, l []string) string { return l[source.IntN(len(l))] }

var inTexts = []string{"a", "b", "\u00E4", "\U0001F600", "\uFFFD", "\uFEFF", "\x7F", "/", "[", "{", ",", `\n`, `\"`, `\\`, `\/`, `\b`, `\f`, `\r`, `\t`, `\u0041`, `\u0000`, `\u001F`, `\ud83d`, `\uDE00`, `\ud83d\ude00`, `\ufeff`, `\uFFFF`}

func someQuoted(source *rand.Rand) string {
	var b strings.Builder
	for range source.IntN(5) {
		b.WriteString(someOf(source, inTexts))
	}
	return `"` + b.String() + `"`
}

var numbers = []string{"0", "-0", "1", "-12", "0.5", "10.010", "1e5", "-1.5E-07", "2E+1", "90e0", "100"}

// someValue: a right text.
func someValue(source *rand.Rand, depth int) string {
	around := func(text string) string { return someOf(source, blanks) + text + someOf(source, blanks) }
	var parts []string
	switch kind := source.IntN(7); {
	case kind == 0:
		return around(someOf(source, []string{"null", "false", "true"}))
	case kind == 1:
		return around(someOf(source, numbers))
	case kind == 2 || depth == 0:
		return around(someQuoted(source))
	case kind < 5:
		for range source.IntN(4) {
			parts = append(parts, someValue(source, depth-1))
		}
		return around("[" + someOf(source, blanks) + strings.Join(parts, ",") + "]")
	default:
		for range source.IntN(4) {
			parts = append(parts, around(someQuoted(source))+":"+someValue(source, depth-1))
		}
		return around("{" + someOf(source, blanks) + strings.Join(parts, ",") + "}")
	}
}

var bytesForMutants = []byte("[]{},:\"\\ \n\t0123456789.eE+-ntfulabsr/dD8\x00\x1F\x20\x7F\x80\xC3\xA4\xFF")

// mutant: a text with a few bytes put, taken away or changed, or cut off.
func mutant(source *rand.Rand, text string) string {
	b := []byte(text)
	for range 1 + source.IntN(2) {
		place := source.IntN(len(b) + 1)
		c := bytesForMutants[source.IntN(len(bytesForMutants))]
		switch kind := source.IntN(4); {
		case kind == 0 || len(b) == 0 || place == len(b):
			b = append(b[:place:place], append([]byte{c}, b[place:]...)...)
		case kind == 1:
			b = append(b[:place:place], b[place+1:]...)
		case kind == 2:
			b[place] = c
		default:
			b = b[:place]
		}
	}
	return string(b)
}

func check(t *testing.T, text string) api.Fault {
	t.Helper()
	got, fault := Parse(text)
	if want := faultByWords(text); fault != want {
		t.Fatalf("%q: %v, want %v", text, fault, want)
	}
	if fault != right {
		if !alike(got, empty) {
			t.Fatalf("%q: %v beside %v", text, got, fault)
		}
		return fault
	}
	if want := valueByLibrary(t, text); !alike(got, want) {
		t.Fatalf("%q: %v, want %v", text, got, want)
	}
	shown := Show(got)
	if again, fault := Parse(shown); fault != right || !alike(again, got) {
		t.Fatalf("%q, %q: %v %v, want %v", text, shown, again, fault, got)
	}
	var short bytes.Buffer
	if err := library.Compact(&short, []byte(shown)); err != nil || short.String() != shown {
		t.Fatalf("%q: %q has blanks: %v", text, shown, err)
	}
	return fault
}

func TestParseAgainstModels(t *testing.T) {
	source := rand.New(rand.NewPCG(22, 1))
	good, notToken, notUTF8, atEnd := 0, 0, 0, 0
	for range 60000 {
		text := someValue(source, source.IntN(5))
		if fault := check(t, text); fault != right {
			t.Fatalf("%q: %v", text, fault)
		}
		text = mutant(source, text)
		switch fault := check(t, text); {
		case fault == right:
			good++
		case fault == wrong(len(text)):
			atEnd++
		case fault.Code == api.ErrToken:
			notToken++
		default:
			notUTF8++
		}
	}
	if good < 3000 || notToken < 10000 || notUTF8 < 3000 || atEnd < 3000 {
		t.Errorf("only %d right, %d wrong, %d wrong at the end, %d not of UTF-8", good, notToken, atEnd, notUTF8)
	}
}

// TestShortTexts: all texts of a few bytes that matter.
func TestShortTexts(t *testing.T) {
	letters := []string{"[", "]", "{", "}", ",", ":", `"`, `\`, " ", "0", "1", "-", ".", "e", "n", "u", "\n", "\u00E4"}
	texts := []string{""}
	for range 4 {
		var longer []string
		for _, text := range texts {
			check(t, text)
			for _, letter := range letters {
				longer = append(longer, text+letter)
			}
		}
		texts = longer
	}
	for _, text := range texts {
		if _, fault := Parse(text); fault != faultByWords(text) {
			t.Fatalf("%q: %v, want %v", text, fault, faultByWords(text))
		}
	}
}

// TestFaultsAgainstLibrary: what is right and what isn't, the library says the same, as long as it isn't nested too deep.
func TestFaultsAgainstLibrary(t *testing.T) {
	source := rand.New(rand.NewPCG(22, 2))
	for range 50000 {
		text := mutant(source, someValue(source, 3))
		_, fault := Parse(text)
		if utf8.ValidString(text) && library.Valid([]byte(text)) != (fault == right) {
			t.Fatalf("%q: %v", text, fault)
		}
	}
}

func TestQuoteAgainstModel(t *testing.T) {
	source := rand.New(rand.NewPCG(22, 3))
	parts := []string{"a", "\"", "\\", "/", "\x00", "\n", "\b", "\x1B", "\x7F", "\x80", "\xC3", "\xE2\x82", "\xF0\x9F\x98", "\xED", "\xA0", "\xEF\xBB", "\xBF", "\xFF", "\u00E4", "\U0001F600", "\uFEFF", "\uFFFD", "\u2028", "<"}
	for range 100000 {
		var b strings.Builder
		for range source.IntN(8) {
			if source.IntN(4) == 0 {
				b.WriteByte(byte(source.IntN(256)))
			} else {
				b.WriteString(someOf(source, parts))
			}
		}
		s := b.String()
		got := Quote(s)
		if want := quoteByWords(s); got != want {
			t.Fatalf("%q: %q, want %q", s, got, want)
		}
		var again string
		if err := library.Unmarshal([]byte(got), &again); err != nil {
			t.Fatalf("%q: %q: %v", s, got, err)
		}
		if v, fault := Parse(got); fault != right || !alike(v, says(again)) || utf8.ValidString(s) && again != s {
			t.Fatalf("%q: %q is read as %v %v, %q", s, got, v, fault, again)
		}
	}
}

func TestQuoteOfEachScalar(t *testing.T) {
	for r := rune(0); r <= api.MaxRune; r++ {
		if !utf8.ValidRune(r) || r > 0x3000 && r%251 != 0 && r < 0xFF00 {
			continue
		}
		if got, want := Quote(string(r)), quoteByWords(string(r)); got != want {
			t.Fatalf("%x: %q, want %q", r, got, want)
		}
	}
	for unit := range 1 << 16 {
		text := `"\u` + strconv.FormatInt(int64(unit)+0x10000, 16)[1:] + `"`
		want := string(rune(unit)) // FFFD, where it is no scalar
		if v, fault := Parse(text); fault != right || !alike(v, says(want)) {
			t.Fatalf("%s: %v %v, want %q", text, v, fault, want)
		}
	}
}
