package squeeze

import (
	"bytes"
	"compress/flate"
	"io"
	"math"
	"slices"
	"strings"
	"testing"

	"ferret/api"
	"ferret/huff"
	"ferret/inflate"
)

// chance answers numbers from 0 up to below n, the same ones in every run.
type chance uint64

func (c *chance) below(n int) int {
	*c = *c*6364136223846793005 + 1442695040888963407
	return int(uint64(*c) >> 33 % uint64(n))
}

// someText has words that come again, and bytes that don't.
func someText(c *chance, size int) string {
	var b []byte
	letters := 1 + c.below(4)
	for len(b) < size {
		switch c.below(5) {
		case 0:
			b = append(b, byte(c.below(256)))
		case 1:
			b = append(b, "the ferret "[c.below(6):]...)
		case 2:
			b = append(b, strings.Repeat(string(rune('a'+c.below(26))), c.below(400))...)
		case 3:
			for range c.below(60) {
				b = append(b, byte('a'+c.below(letters)))
			}
		default:
			if n := len(b); n > 0 {
				at := c.below(n)
				b = append(b, b[at:min(n, at+c.below(400))]...)
			}
		}
	}
	return string(b[:size])
}

// bits are told as a text of 0 and 1, a byte's lowest one first.
func bitsOf(s string) string {
	var b strings.Builder
	for i := range len(s) {
		for k := range 8 {
			b.WriteByte('0' + s[i]>>k&1)
		}
	}
	return b.String()
}

func bytesOf(bits string) string {
	b := make([]byte, (len(bits)+7)/8)
	for i := range len(bits) {
		b[i/8] |= (bits[i] - '0') << (i % 8)
	}
	return string(b)
}

func high(v, n int) string {
	s := ""
	for i := range n {
		s += string(rune('0' + v>>(n-1-i)&1))
	}
	return s
}

func low(v, n int) string {
	s := ""
	for i := range n {
		s += string(rune('0' + v>>i&1))
	}
	return s
}

// P4.1

// plainTokens tries each distance, as the document says.
func plainTokens(data string, from, to, reach int) []Token {
	if from < 0 || from > to || to > len(data) {
		return nil
	}
	reach = min(max(reach, 0), 32768)
	var list []Token
	for p := from; p < to; {
		best, distance := 0, 0
		for d := 1; d <= reach && d <= p; d++ {
			n := 0
			for n < 258 && p+n < to && data[p+n] == data[p+n-d] {
				n++
			}
			if n > best {
				best, distance = n, d
			}
		}
		if best >= 3 {
			list = append(list, Token{Length: best, Distance: distance})
			p += best
		} else {
			list = append(list, Token{Byte: data[p]})
			p++
		}
	}
	return list
}

func letters(s string) []Token {
	var list []Token
	for i := range len(s) {
		list = append(list, Token{Byte: s[i]})
	}
	return list
}

func TestTokens(t *testing.T) {
	runs := strings.Repeat("a", 1000)
	for _, x := range []struct {
		name            string
		data            string
		from, to, reach int
		want            []Token
	}{
		{"nothing", "", 0, 0, 9, nil},
		{"an empty span", "abc", 2, 2, 9, nil},
		{"none again", "abc", 0, 3, 9, letters("abc")},
		{"two bytes are too few", "abcab", 0, 5, 9, letters("abcab")},
		{"three bytes", "abcabc", 0, 6, 9, append(letters("abc"), Token{Length: 3, Distance: 3})},
		{"into itself", "aaaaa", 0, 5, 9, []Token{{Byte: 'a'}, {Length: 4, Distance: 1}}},
		{"the most bytes, though farther", "abcd-abc-abcd", 9, 13, 99, []Token{{Length: 4, Distance: 9}}},
		{"of as many the nearest", "abc-abc-abc", 8, 11, 99, []Token{{Length: 3, Distance: 4}}},
		{"not beyond the end", "abcabcabc", 3, 7, 99, []Token{{Length: 4, Distance: 3}}},
		{"not beyond the end, too few", "abcabcabc", 3, 5, 99, letters("ab")},
		{"ahead of from", "xabcabc", 4, 7, 99, []Token{{Length: 3, Distance: 3}}},
		{"just in reach", "abcabc", 3, 6, 3, []Token{{Length: 3, Distance: 3}}},
		{"out of reach", "abcabc", 3, 6, 2, letters("abc")},
		{"a nearer one, the longer out of reach", "abcd-abc-abcd", 9, 13, 8, append([]Token{{Length: 3, Distance: 4}}, letters("d")...)},
		{"reach 0", "aaaaaa", 0, 6, 0, letters("aaaaaa")},
		{"reach below 0", "aaaaaa", 0, 6, -1, letters("aaaaaa")},
		{"reach far below 0", "aaaaaa", 0, 6, math.MinInt, letters("aaaaaa")},
		{"the greatest reach", "aaaaaa", 0, 6, math.MaxInt, []Token{{Byte: 'a'}, {Length: 5, Distance: 1}}},
		{"at most 258", runs[:262], 0, 262, 9, []Token{{Byte: 'a'}, {Length: 258, Distance: 1}, {Length: 3, Distance: 1}}},
		{"258 and two", runs[:261], 0, 261, 9, append([]Token{{Byte: 'a'}, {Length: 258, Distance: 1}}, letters("aa")...)},
		{"from below 0", "abcabc", -1, 6, 9, nil},
		{"from far below 0", "abcabc", math.MinInt, 6, 9, nil},
		{"from behind to", "abcabc", 4, 3, 9, nil},
		{"to behind the end", "abcabc", 0, 7, 9, nil},
		{"to far behind the end", "abcabc", 0, math.MaxInt, 9, nil},
		{"both behind the end", "abcabc", 7, 7, 9, nil},
		{"to below 0", "abcabc", math.MinInt, math.MinInt, 9, nil},
	} {
		if got := Tokens(x.data, x.from, x.to, x.reach); !slices.Equal(got, x.want) {
			t.Errorf("%s: %v, want %v", x.name, got, x.want)
		}
	}
}

func TestTokensOfTheFarthest(t *testing.T) {
	for _, gap := range []int{32767, 32768, 32769} {
		c := chance(gap)
		b := []byte("\x00\x01\x02")
		for len(b) < gap {
			b = append(b, byte(3+c.below(253)))
		}
		b = append(b, 0, 1, 2)
		want := []Token{{Length: 3, Distance: gap}}
		if gap > 32768 {
			want = letters("\x00\x01\x02")
		}
		for _, reach := range []int{32768, 32769, math.MaxInt} {
			if got := Tokens(string(b), gap, len(b), reach); !slices.Equal(got, want) {
				t.Errorf("%d back, reach %d: %v", gap, reach, got)
			}
		}
	}
}

func TestTokensAsTheWordsSay(t *testing.T) {
	c := chance(1)
	for range 400 {
		data := someText(&c, c.below(1500))
		from := c.below(len(data) + 1)
		to := from + c.below(len(data)-from+1)
		reach := c.below(1 << c.below(12))
		if got, want := Tokens(data, from, to, reach), plainTokens(data, from, to, reach); !slices.Equal(got, want) {
			t.Fatalf("%q from %d to %d, reach %d: %v, want %v", data, from, to, reach, got, want)
		}
	}
}

// P4.2

// plainBlocks: the spans of the blocks, each with the choice that counts for it, in the order of the words.
func plainBlocks(size int, choices []Choice) (spans []api.Span, counts []Choice) {
	at := 0
	use := func(kind, wanted, reach int) {
		n := min(max(wanted, 0), size-at)
		for {
			part := n
			if kind == 0 {
				part = min(n, 65535)
			}
			spans = append(spans, api.Span{From: at, To: at + part})
			counts = append(counts, Choice{Kind: kind, Reach: reach})
			at += part
			n -= part
			if n == 0 {
				return
			}
		}
	}
	for _, c := range choices {
		kind := c.Kind
		if kind < 0 {
			kind = -(kind + 1)
		}
		use(kind%3, c.Size, c.Reach)
	}
	if at < size || len(spans) == 0 {
		use(0, size-at, 0)
	}
	return spans, counts
}

// symbolOf: the last symbol, or the one whose least number and bits have n.
func symbolOf(n, first, last int, ask func(int) (int, int, bool)) (symbol, more, bits int) {
	if least, _, _ := ask(last); least == n {
		return last, 0, 0
	}
	for s := first; s <= last; s++ {
		if least, b, _ := ask(s); least <= n && n < least+1<<b {
			return s, n - least, b
		}
	}
	return 0, 0, 0
}

// plainCode: a symbol's code, one behind the other as layer 2's chapter says.
func plainCode(lengths []int, symbol int) string {
	code, last := -1, 0
	for n := 1; n <= 15; n++ {
		for s, length := range lengths {
			if length != n {
				continue
			}
			if last == 0 {
				last = n
			}
			code = (code + 1) << (n - last)
			last = n
			if s == symbol {
				return high(code, n)
			}
		}
	}
	return "?"
}

// plainCompressed: the bits of a block of kind 1 or 2, behind its kind.
func plainCompressed(tokens []Token, kind int) string {
	literals, distances := make([]int, 288), slices.Repeat([]int{5}, 32)
	for i := range literals {
		literals[i] = len(plainFixed(i))
	}
	head := ""
	if kind == 2 {
		usedL, usedD := make([]bool, 286), make([]bool, 30)
		usedL[256] = true
		far := map[int]int{}
		for _, t := range tokens {
			if t.Length == 0 {
				usedL[t.Byte] = true
				continue
			}
			l, _, _ := symbolOf(t.Length, 257, 285, inflate.Length)
			d, _, _ := symbolOf(t.Distance, 0, 29, inflate.Distance)
			usedL[l], usedD[d] = true, true
			far[d]++
		}
		if len(far) <= 1 {
			usedD[0], usedD[1] = true, true
		}
		literals, distances = huff.Even(usedL), huff.Even(usedD)
		head = low(29, 5) + low(29, 5) + low(15, 4) + strings.Repeat("000", 3) + strings.Repeat(low(4, 3), 16)
		for _, n := range append(slices.Clone(literals), distances...) {
			head += high(n, 4)
		}
	}
	var b strings.Builder
	b.WriteString(head)
	for _, t := range tokens {
		if t.Length == 0 {
			b.WriteString(plainCode(literals, int(t.Byte)))
			continue
		}
		s, more, n := symbolOf(t.Length, 257, 285, inflate.Length)
		b.WriteString(plainCode(literals, s) + low(more, n))
		s, more, n = symbolOf(t.Distance, 0, 29, inflate.Distance)
		b.WriteString(plainCode(distances, s) + low(more, n))
	}
	return b.String() + plainCode(literals, 256)
}

// plainFixed: kind 1's codes, as RFC 1951 tells them (3.2.6).
func plainFixed(symbol int) string {
	switch {
	case symbol < 144:
		return high(0x30+symbol, 8)
	case symbol < 256:
		return high(0x190+symbol-144, 9)
	case symbol < 280:
		return high(symbol-256, 7)
	}
	return high(0xC0+symbol-280, 8)
}

func plainPack(data string, choices []Choice) string {
	bits := ""
	spans, counts := plainBlocks(len(data), choices)
	for i, s := range spans {
		last := 0
		if i == len(spans)-1 {
			last = 1
		}
		kind := counts[i].Kind
		bits += low(last, 1) + low(kind, 2)
		if kind == 0 {
			for len(bits)%8 > 0 {
				bits += "0"
			}
			n := s.To - s.From
			bits += low(n, 16) + low(65535-n, 16) + bitsOf(data[s.From:s.To])
			continue
		}
		bits += plainCompressed(plainTokens(data, s.From, s.To, counts[i].Reach), kind)
	}
	return bytesOf(bits)
}

func someChoices(c *chance, size int) []Choice {
	var list []Choice
	for range c.below(6) {
		list = append(list, Choice{Kind: c.below(9) - 4, Size: c.below(size+20) - 10, Reach: c.below(1<<c.below(12)) - 1})
	}
	return list
}

// wantUnpacked checks that both this program and another one unpack what was packed.
func wantUnpacked(t *testing.T, name, data, packed string) {
	t.Helper()
	if s, n, f := inflate.Unpack(packed, 0, len(data)); s != data || n != len(packed) || f != (api.Fault{}) {
		t.Errorf("%s: %d bytes, %d, %v, want %d bytes, %d", name, len(s), n, f, len(data), len(packed))
	}
	r := bytes.NewReader([]byte(packed))
	s, err := io.ReadAll(flate.NewReader(r))
	if string(s) != data || err != nil || r.Len() > 0 {
		t.Errorf("%s: another program: %d bytes, %v, %d left", name, len(s), err, r.Len())
	}
}

func TestPack(t *testing.T) {
	for _, x := range []struct {
		name    string
		data    string
		choices []Choice
		want    string
	}{
		{"the example", "ab", nil, "\x01\x02\x00\xfd\xffab"},
		{"nothing", "", nil, "\x01\x00\x00\xff\xff"},
		{"a choice of nothing", "", []Choice{{Kind: 0, Size: 9}}, "\x01\x00\x00\xff\xff"},
		{"two blocks", "ab", []Choice{{Size: 1}, {Size: 9}}, "\x00\x01\x00\xfe\xffa\x01\x01\x00\xfe\xffb"},
		{"what is left", "ab", []Choice{{Size: 1}}, "\x00\x01\x00\xfe\xffa\x01\x01\x00\xfe\xffb"},
		{"a size of 0", "ab", []Choice{{}}, "\x00\x00\x00\xff\xff\x01\x02\x00\xfd\xffab"},
		{"a size below 0", "ab", []Choice{{Size: math.MinInt}}, "\x00\x00\x00\xff\xff\x01\x02\x00\xfd\xffab"},
		{"the greatest size", "ab", []Choice{{Size: math.MaxInt}}, "\x01\x02\x00\xfd\xffab"},
		{"choices behind the last byte", "a", []Choice{{Size: 1}, {Size: 1}, {Size: 0}}, "\x00\x01\x00\xfe\xffa\x00\x00\x00\xff\xff\x01\x00\x00\xff\xff"},
		{"kind 1", "aaaaaaaaa", []Choice{{Kind: 1, Size: 9, Reach: 9}}, "\x4b\x84\x01\x00"},
		{"kind 1 of nothing", "", []Choice{{Kind: 1}}, "\x03\x00"},
		{"kind 1, then what is left", "ab", []Choice{{Kind: 1, Size: 1}}, "\x4a\x04\x04\x01\x00\xfe\xffb"},
	} {
		if got := Pack(x.data, x.choices); got != x.want {
			t.Errorf("%s: %x, want %x", x.name, got, x.want)
		}
	}
}

func TestKinds(t *testing.T) {
	data := "abcabcabc"
	with := func(kind int) string { return Pack(data, []Choice{{Kind: kind, Size: 9, Reach: 9}}) }
	for _, x := range []struct{ kind, same int }{
		{3, 0}, {4, 1}, {5, 2}, {299, 2}, {-1, 0}, {-2, 1}, {-3, 2}, {-4, 0}, {-5, 1},
		{math.MaxInt, math.MaxInt % 3}, {math.MinInt, math.MaxInt % 3}, {math.MinInt + 1, (math.MaxInt - 1) % 3},
	} {
		if with(x.kind) != with(x.same) {
			t.Errorf("kind %d isn't as kind %d", x.kind, x.same)
		}
	}
	if with(0) == with(1) || with(1) == with(2) || with(0) == with(2) {
		t.Error("the kinds aren't three")
	}
}

func TestKind0Sizes(t *testing.T) {
	c := chance(4)
	for _, size := range []int{65534, 65535, 65536, 131070, 131071, 200000} {
		data := someText(&c, size)
		for name, choices := range map[string][]Choice{
			"no choice":            nil,
			"one for all":          {{Size: size}},
			"one for more":         {{Size: size + 70000}},
			"one for most":         {{Size: size - 1}},
			"65535, then the rest": {{Size: 65535}, {Kind: 2, Size: 10, Reach: 5}},
			"65536, then the rest": {{Size: 65536}, {Kind: 1, Size: 10, Reach: 5}},
		} {
			packed := Pack(data, choices)
			wantUnpacked(t, name, data, packed)
			blocks := (size + 65534) / 65535
			if len(choices) < 2 && name != "one for most" && len(packed) != size+5*blocks {
				t.Errorf("%s: %d bytes in %d, want %d blocks", name, size, len(packed), blocks)
			}
		}
	}
	// the choice is used again: its kind, for what is left of its size, ahead of the next choice
	data := strings.Repeat("x", 65540)
	want := "\x00\xff\xff\x00\x00" + data[:65535] + "\x00\x02\x00\xfd\xff" + "xx" + "\x01\x03\x00\xfc\xff" + "xxx"
	if got := Pack(data, []Choice{{Size: 65537}, {Kind: 3, Size: 9}}); got != want {
		t.Errorf("%d bytes, want %d", len(got), len(want))
	}
	if got := Pack(data[:65535], []Choice{{Size: 65537}, {Kind: 1}}); got != "\x00\xff\xff\x00\x00"+data[:65535]+"\x03\x00" {
		t.Errorf("all of what is left is one block: %d bytes", len(got))
	}
}

func TestEachLengthAndDistance(t *testing.T) {
	c := chance(5)
	text := make([]byte, 33000)
	for i := range text {
		text[i] = byte(c.below(256))
	}
	for kind := 1; kind <= 2; kind++ {
		for length := 3; length <= 258; length++ {
			data := string(text[:length]) + "-" + string(text[:length])
			got := Pack(data, []Choice{{Kind: 0, Size: length + 1}, {Kind: kind, Size: length, Reach: length + 1}})
			if want := plainPack(data, []Choice{{Size: length + 1}, {Kind: kind, Size: length, Reach: length + 1}}); got != want {
				t.Errorf("kind %d, length %d: %x, want %x", kind, length, got, want)
			}
		}
		for symbol := range 30 {
			least, bits, _ := inflate.Distance(symbol)
			for _, distance := range []int{least, least + 1<<bits - 1} {
				if distance < 3 {
					continue // what comes again reaches into itself: TestPackAsTheWordsSay
				}
				data := string(text[:distance]) + string(text[:3])
				choices := []Choice{{Size: distance}, {Kind: kind, Size: 3, Reach: 32768}}
				packed := Pack(data, choices)
				if distance < 5000 && packed != plainPack(data, choices) {
					t.Errorf("kind %d, distance %d: %x", kind, distance, packed)
				}
				wantUnpacked(t, "a distance", data, packed)
				if distance < 65535 && len(packed) > distance+5+260 {
					t.Errorf("kind %d, distance %d: nothing comes again", kind, distance)
				}
			}
		}
	}
}

func TestPackAsTheWordsSay(t *testing.T) {
	c := chance(2)
	for i := range 400 {
		data := someText(&c, c.below(1+i))
		choices := someChoices(&c, len(data))
		kept := slices.Clone(choices)
		got, want := Pack(data, choices), plainPack(data, choices)
		if got != want {
			t.Fatalf("%q by %v: %x, want %x", data, choices, got, want)
		}
		if !slices.Equal(choices, kept) {
			t.Fatalf("%v is changed: %v", kept, choices)
		}
		wantUnpacked(t, "some text", data, got)
	}
}

func TestPackOfMuch(t *testing.T) {
	c := chance(3)
	data := someText(&c, 300000)
	for kind := range 3 {
		wantUnpacked(t, "one block", data, Pack(data, []Choice{{Kind: kind, Size: len(data), Reach: 32768}}))
	}
	var many []Choice
	for range 20000 {
		many = append(many, Choice{Kind: c.below(3), Size: c.below(30), Reach: 32768})
	}
	wantUnpacked(t, "many blocks", data, Pack(data, many))
	noughts := strings.Repeat("\x00", 1<<20)
	wantUnpacked(t, "noughts", noughts, Pack(noughts, []Choice{{Kind: 2, Size: 1 << 20, Reach: 32768}}))
}
