package gz

import (
	"bytes"
	"compress/gzip"
	"hash/crc32"
	"io"
	"math/rand/v2"
	"slices"
	"strings"
	"testing"
	"time"

	"ferret/api"
	"ferret/squeeze"
)

func chance(seed uint64) *rand.Rand {
	return rand.New(rand.NewPCG(seed, 5))
}

// someBytes: any bytes, and words that come again.
func someBytes(c *rand.Rand, size int) string {
	var b []byte
	for len(b) < size {
		if c.IntN(2) == 0 {
			b = append(b, byte(c.IntN(256)))
		} else {
			b = append(b, "the ferret "[c.IntN(6):]...)
		}
	}
	return string(b[:size])
}

// P5.1

// wordSum: the sum, as the document says it.
func wordSum(s string) int {
	c := 1<<32 - 1
	for i := range len(s) {
		c ^= int(s[i])
		for range 8 {
			low := c & 1
			c >>= 1
			if low == 1 {
				c ^= 0xEDB88320
			}
		}
	}
	return c ^ (1<<32 - 1)
}

func TestSum(t *testing.T) {
	if n := Sum("123456789"); n != 0xCBF43926 {
		t.Errorf("the example: %x", n)
	}
	if n := Sum(""); n != 0 {
		t.Errorf("nothing: %x", n)
	}
	for b := range 256 {
		s := string([]byte{byte(b)})
		if n := Sum(s); n != wordSum(s) {
			t.Errorf("%x: %x, want %x", s, n, wordSum(s))
		}
	}
	c := chance(1)
	for size := range 300 {
		s := someBytes(c, size)
		if n := Sum(s); n != wordSum(s) || n != int(crc32.ChecksumIEEE([]byte(s))) {
			t.Errorf("%x: %x, want %x", s, n, wordSum(s))
		}
	}
	noughts, ones := strings.Repeat("\x00", 1<<20), strings.Repeat("\xff", 1<<20)
	for _, s := range []string{noughts, ones} {
		if n := Sum(s); n != int(crc32.ChecksumIEEE([]byte(s))) {
			t.Errorf("many of %x: %x", s[0], n)
		}
	}
}

func TestIs(t *testing.T) {
	for s, want := range map[string]bool{
		"": false, "\x1f": false, "\x8b": false, "\x8b\x1f": false, "x\x1f\x8b": false, "\x1f\x8c": false, "\x1e\x8b": false,
		"\x1f\x8b": true, "\x1f\x8bx": true, "\x1f\x8b\x08\x00": true,
	} {
		if Is(s) != want {
			t.Errorf("%x: %v", s, !want)
		}
	}
}

// P5.2

// ten bytes of a head, with flags, and numbers that differ in each byte
func headWith(flags byte) string {
	return "\x1f\x8b\x08" + string([]byte{flags}) + "\x01\x02\x03\xf4\x05\xf6"
}

// tail: data as one block of kind 0, and its sums
func tail(data string) string {
	n := len(data)
	block := "\x01" + string([]byte{byte(n), byte(n >> 8), byte(n) ^ 255, byte(n>>8) ^ 255}) + data
	return block + low(wordSum(data), 4) + low(n, 4)
}

func low(n, size int) string {
	b := make([]byte, size)
	for i := range b {
		b[i] = byte(n % 256)
		n /= 256
	}
	return string(b)
}

func withHeadSum(head string) string {
	return head + low(wordSum(head)%65536, 2)
}

func wantParts(t *testing.T, name, data string, most int, want ...Part) {
	t.Helper()
	if got, f := Read(data, most); !slices.Equal(got, want) || f != (api.Fault{}) {
		t.Errorf("%s: %v, %v, want %v", name, got, f, want)
	}
}

func wantFault(t *testing.T, name, data string, most int, code api.Errno, at int) {
	t.Helper()
	if got, f := Read(data, most); len(got) > 0 || f != (api.Fault{Code: code, At: at}) {
		t.Errorf("%s: %d parts, %v, want %d at %d", name, len(got), f, code, at)
	}
}

func TestRead(t *testing.T) {
	long := strings.Repeat("n", api.MaxName)
	wide := strings.Repeat("\x00e", 32767) + "e"
	for _, x := range []struct {
		name, head, data string
		want             Part
	}{
		{"nothing but data", headWith(0), "ab", Part{}},
		{"no data", headWith(0), "", Part{}},
		{"text", headWith(1), "ab", Part{Text: true}},
		{"head's sum", withHeadSum(headWith(2)), "ab", Part{HeadSum: true}},
		{"extra", headWith(4) + "\x03\x00e\x00x", "ab", Part{Extra: "e\x00x"}},
		{"empty extra", headWith(4) + "\x00\x00", "ab", Part{}},
		{"the longest extra", headWith(4) + "\xff\xff" + wide, "ab", Part{Extra: wide}},
		{"name", headWith(8) + "na\xff\x00", "ab", Part{Name: "na\xff"}},
		{"empty name", headWith(8) + "\x00", "ab", Part{}},
		{"the longest name", headWith(8) + long + "\x00", "ab", Part{Name: long}},
		{"comment", headWith(16) + "co\x00", "ab", Part{Comment: "co"}},
		{"the longest comment", headWith(16) + long + "\x00", "ab", Part{Comment: long}},
		{"name, comment", headWith(24) + "na\x00co\x00", "ab", Part{Name: "na", Comment: "co"}},
		{"all", withHeadSum(headWith(31) + "\x02\x00xy" + "na\x00co\x00"), "ab", Part{Name: "na", Comment: "co", Extra: "xy", Text: true, HeadSum: true}},
	} {
		want := x.want
		want.Time, want.More, want.System, want.Data = 0xf4030201, 5, 0xf6, x.data
		wantParts(t, x.name, x.head+tail(x.data), len(x.data), want)
		wantParts(t, x.name+", twice", x.head+tail(x.data)+x.head+tail(x.data), 2*len(x.data), want, want)
	}
}

func TestReadOfPartsInOrder(t *testing.T) {
	data := "\x1f\x8b\x08\x08\x00\x00\x00\x00\x00\x00one\x00" + tail("first") + "\x1f\x8b\x08\x00\xff\xff\xff\xff\xff\xff" + tail("") + headWith(16) + "c\x00" + tail("third")
	wantParts(t, "three", data, 10,
		Part{Name: "one", Data: "first"},
		Part{Time: 1<<32 - 1, More: 255, System: 255},
		Part{Comment: "c", Time: 0xf4030201, More: 5, System: 0xf6, Data: "third"})
}

func TestReadBound(t *testing.T) {
	one, two := headWith(0)+tail("hello"), headWith(0)+tail("world")
	wantFault(t, "most below 0", one, -1, api.ErrArg, 0)
	wantFault(t, "most far below 0", "", -1<<63, api.ErrArg, 0)
	wantFault(t, "one too few", one, 4, api.ErrLong, 15)
	wantFault(t, "one too few for both", one+two, 9, api.ErrLong, len(one)+15)
	wantFault(t, "none left for the second", one+two, 5, api.ErrLong, len(one)+15)
	if l, f := Read(one+two, 10); len(l) != 2 || f != (api.Fault{}) {
		t.Errorf("just enough: %v, %v", l, f)
	}
	if l, f := Read(one+two, 1<<63-1); len(l) != 2 || f != (api.Fault{}) {
		t.Errorf("the greatest: %v, %v", l, f)
	}
	if l, f := Read(one+headWith(0)+tail(""), 5); len(l) != 2 || f != (api.Fault{}) {
		t.Errorf("an empty one behind: %v, %v", l, f)
	}
}

func TestReadMany(t *testing.T) {
	one := headWith(0) + tail("a")
	most := strings.Repeat(one, api.MaxMembers)
	if l, f := Read(most, api.MaxMembers); len(l) != api.MaxMembers || f != (api.Fault{}) {
		t.Errorf("%d parts, %v", len(l), f)
	}
	wantFault(t, "one more", most+one, 9999, api.ErrMany, len(most))
	wantFault(t, "a byte more, which isn't asked", most+"x", 9999, api.ErrMany, len(most))
	wantFault(t, "a fault of the last", most[:len(most)-1]+"x"+one, 9999, api.ErrSize, len(most)-4)
}

func TestReadFaults(t *testing.T) {
	tooLong := strings.Repeat("n", api.MaxName+1)
	good := headWith(0) + tail("ab")
	summed := withHeadSum(headWith(2))
	for _, x := range []struct {
		name, data string
		code       api.Errno
		at         int
	}{
		{"one byte", "\x1f", api.ErrMagic, 0},
		{"another first byte", "\x1e" + good[1:], api.ErrMagic, 0},
		{"another second byte", "\x1f\x8a" + good[2:], api.ErrMagic, 0},
		{"two bytes", good[:2], api.ErrEnd, 0},
		{"nine bytes", good[:9], api.ErrEnd, 0},
		{"nine bytes of another method", "\x1f\x8b\x07" + good[3:9], api.ErrEnd, 0},
		{"another method", "\x1f\x8b\x07" + good[3:], api.ErrMethod, 2},
		{"another method, another flag", "\x1f\x8b\x09\xe0" + good[4:], api.ErrMethod, 2},
		{"flag 32", headWith(32) + tail("ab"), api.ErrForm, 3},
		{"flag 64", headWith(64) + tail("ab"), api.ErrForm, 3},
		{"flag 128", headWith(128), api.ErrForm, 3},
		{"flag 32 and a text that is cut", headWith(32 + 4), api.ErrForm, 3},
		{"extra, no size", headWith(4), api.ErrEnd, 10},
		{"extra, half a size", headWith(4) + "\x00", api.ErrEnd, 10},
		{"extra, a byte is wanting", headWith(4) + "\x03\x00ex", api.ErrEnd, 10},
		{"extra, many are wanting", headWith(4) + "\x00\x80" + tail("ab"), api.ErrEnd, 10},
		{"no name", headWith(8), api.ErrEnd, 10},
		{"name without an end", headWith(8) + "name", api.ErrEnd, 10},
		{"long name without an end", headWith(8) + tooLong, api.ErrEnd, 10},
		{"long name", headWith(8) + tooLong + "\x00" + tail("ab"), api.ErrLong, 10},
		{"name behind extra", headWith(12) + "\x02\x00exname", api.ErrEnd, 14},
		{"comment without an end", headWith(16) + "name", api.ErrEnd, 10},
		{"long comment", headWith(16) + tooLong + "\x00" + tail("ab"), api.ErrLong, 10},
		{"comment behind a name", headWith(24) + "name\x00comment", api.ErrEnd, 15},
		{"long comment behind a name", headWith(24) + "name\x00" + tooLong + "\x00", api.ErrLong, 15},
		{"no head's sum", headWith(2), api.ErrEnd, 10},
		{"half a head's sum", summed[:11], api.ErrEnd, 10},
		{"half a head's sum behind all", headWith(31) + "\x02\x00xy" + "na\x00co\x00x", api.ErrEnd, 20},
		{"another head's sum, lower byte", summed[:10] + string([]byte{summed[10] ^ 1}) + summed[11:] + tail("ab"), api.ErrSum, 10},
		{"another head's sum, higher byte", summed[:11] + string([]byte{summed[11] ^ 128}) + tail("ab"), api.ErrSum, 10},
		{"a head's sum of another head", "\x1f\x8b\x08\x02\x01\x02\x03\xf4\x05\xf7" + summed[10:] + tail("ab"), api.ErrSum, 10},
		{"no packed data", headWith(0), api.ErrEnd, 10},
		{"packed data is cut", good[:16], api.ErrEnd, 15},
		{"a block of kind 3", headWith(0) + "\x07" + good[11:], api.ErrBlock, 10},
		{"a block of another size", headWith(0) + "\x01\x02\x00\xfd\xfeab", api.ErrSize, 15},
		{"no sums", good[:17], api.ErrEnd, 17},
		{"one byte of the sums is wanting", good[:24], api.ErrEnd, 17},
		{"seven bytes and another sum", good[:17] + "xxxxxxx", api.ErrEnd, 17},
		{"another sum", good[:17] + "x" + good[18:], api.ErrSum, 17},
		{"another sum, the highest byte", good[:20] + "x" + good[21:], api.ErrSum, 17},
		{"another sum and another size", good[:17] + "xxxxxxxx", api.ErrSum, 17},
		{"another size", good[:21] + "\x03" + good[22:], api.ErrSize, 21},
		{"another size, the highest byte", good[:24] + "\x80", api.ErrSize, 21},
	} {
		wantFault(t, x.name, x.data, 99, x.code, x.at)
		wantFault(t, x.name+", behind another part", good+x.data, 99, x.code, x.at+len(good))
	}
	wantFault(t, "nothing", "", 99, api.ErrMagic, 0)
	wantFault(t, "rest", good+"\x00", 99, api.ErrMagic, len(good))
	wantFault(t, "what is packed comes from this part alone", good+headWith(0)+"\x03\x02\x00", 99, api.ErrFar, len(good)+11)
}

// The head's sum is that of this part's bytes, not of the file's.
func TestHeadSumOfASecondPart(t *testing.T) {
	first, second := headWith(0)+tail("ab"), withHeadSum(headWith(2))+tail("cd")
	if l, f := Read(first+second, 4); len(l) != 2 || f != (api.Fault{}) || !l[1].HeadSum {
		t.Errorf("%v, %v", l, f)
	}
	wrong := first + headWith(2) + low(wordSum(first+headWith(2))%65536, 2) + tail("cd")
	wantFault(t, "the file's sum", wrong, 4, api.ErrSum, len(first)+10)
}

func zipped(t *testing.T, p Part, level int) string {
	t.Helper()
	var b bytes.Buffer
	w, err := gzip.NewWriterLevel(&b, level)
	if err != nil {
		t.Fatal(err)
	}
	w.Name, w.Comment, w.Extra, w.OS = p.Name, p.Comment, []byte(p.Extra), byte(p.System)
	if p.Extra == "" {
		w.Extra = nil
	}
	w.ModTime = time.Unix(int64(p.Time), 0)
	if _, err := w.Write([]byte(p.Data)); err != nil {
		t.Fatal(err)
	}
	if err := w.Close(); err != nil {
		t.Fatal(err)
	}
	return b.String()
}

// What another packer packs.
func TestReadOfAnotherPacker(t *testing.T) {
	c := chance(2)
	for _, level := range []int{gzip.NoCompression, gzip.BestSpeed, gzip.DefaultCompression, gzip.BestCompression, gzip.HuffmanOnly} {
		file, size := "", 0
		var want []Part
		for i := range 6 {
			p := Part{Time: 1 + c.IntN(1<<30), System: c.IntN(256), Data: someBytes(c, c.IntN(60000))}
			p.Name = []string{"", "name"}[i%2]
			p.Comment = []string{"", "", "comment"}[i%3]
			p.Extra = []string{"", "", "extra"}[(i+1)%3]
			file += zipped(t, p, level)
			size += len(p.Data)
			want = append(want, p)
		}
		got, f := Read(file, size)
		for i := range got {
			got[i].More = 0 // hangs on the level
		}
		if !slices.Equal(got, want) || f != (api.Fault{}) {
			t.Errorf("level %d: %d parts, %v", level, len(got), f)
		}
	}
}

// P5.3

func TestWriteBytes(t *testing.T) {
	for _, x := range []struct {
		name    string
		parts   []Part
		choices []squeeze.Choice
		want    string
	}{
		{"an empty part", []Part{{}}, nil, "\x1f\x8b\x08\x00\x00\x00\x00\x00\x00\x00" + tail("")},
		{"data", []Part{{Data: "ab"}}, nil, "\x1f\x8b\x08\x00\x00\x00\x00\x00\x00\x00" + tail("ab")},
		{"numbers", []Part{{Time: 0xf4030201, More: 5, System: 0xf6, Data: "ab"}}, nil, headWith(0) + tail("ab")},
		{"the greatest numbers", []Part{{Time: 1<<32 - 1, More: 255, System: 255}}, nil, "\x1f\x8b\x08\x00\xff\xff\xff\xff\xff\xff" + tail("")},
		{"all", []Part{{Name: "na", Comment: "co", Extra: "x\x00", Text: true, HeadSum: true, Time: 0xf4030201, More: 5, System: 0xf6, Data: "ab"}}, nil,
			withHeadSum(headWith(31)+"\x02\x00x\x00"+"na\x00co\x00") + tail("ab")},
		{"name", []Part{{Name: "na", Time: 0xf4030201, More: 5, System: 0xf6}}, nil, headWith(8) + "na\x00" + tail("")},
		{"comment", []Part{{Comment: "co", Time: 0xf4030201, More: 5, System: 0xf6}}, nil, headWith(16) + "co\x00" + tail("")},
		{"extra", []Part{{Extra: "ex", Time: 0xf4030201, More: 5, System: 0xf6}}, nil, headWith(4) + "\x02\x00ex" + tail("")},
		{"text", []Part{{Text: true, Time: 0xf4030201, More: 5, System: 0xf6}}, nil, headWith(1) + tail("")},
		{"head's sum", []Part{{HeadSum: true, Time: 0xf4030201, More: 5, System: 0xf6}}, nil, withHeadSum(headWith(2)) + tail("")},
		{"choices, for each part", []Part{{Data: "aaaaaaaaa"}, {Data: "bb"}}, []squeeze.Choice{{Kind: 1, Size: 9, Reach: 9}},
			"\x1f\x8b\x08\x00\x00\x00\x00\x00\x00\x00" + "\x4b\x84\x01\x00" + low(wordSum("aaaaaaaaa"), 4) + "\x09\x00\x00\x00" +
				"\x1f\x8b\x08\x00\x00\x00\x00\x00\x00\x00" + squeeze.Pack("bb", []squeeze.Choice{{Kind: 1, Size: 9, Reach: 9}}) + low(wordSum("bb"), 4) + "\x02\x00\x00\x00"},
	} {
		if got, err := Write(x.parts, x.choices); got != x.want || err != api.OK {
			t.Errorf("%s: %x, %d, want %x", x.name, got, err, x.want)
		}
	}
}

func TestWriteErrors(t *testing.T) {
	long := strings.Repeat("n", api.MaxName+1)
	wide := strings.Repeat("e", 65536)
	for _, x := range []struct {
		name  string
		parts []Part
		want  api.Errno
	}{
		{"no parts", nil, api.ErrArg},
		{"an empty list", []Part{}, api.ErrArg},
		{"too many", make([]Part, api.MaxMembers+1), api.ErrArg},
		{"too many, with a long name", append(make([]Part, api.MaxMembers), Part{Name: long}), api.ErrArg},
		{"time below 0", []Part{{Time: -1}}, api.ErrArg},
		{"time too great", []Part{{Time: 1 << 32}}, api.ErrArg},
		{"the greatest time", []Part{{Time: 1<<63 - 1}}, api.ErrArg},
		{"more below 0", []Part{{More: -1}}, api.ErrArg},
		{"more too great", []Part{{More: 256}}, api.ErrArg},
		{"system below 0", []Part{{System: -1 << 63}}, api.ErrArg},
		{"system too great", []Part{{System: 256}}, api.ErrArg},
		{"system too great, long name", []Part{{System: 256, Name: long}}, api.ErrArg},
		{"long name", []Part{{Name: long}}, api.ErrLong},
		{"long comment", []Part{{Comment: long}}, api.ErrLong},
		{"long extra", []Part{{Extra: wide}}, api.ErrLong},
		{"long extra, bad name", []Part{{Extra: wide, Name: "\x00"}}, api.ErrLong},
		{"long bad name", []Part{{Name: long + "\x00"}}, api.ErrLong},
		{"bad name", []Part{{Name: "a\x00"}}, api.ErrName},
		{"bad name, the first byte", []Part{{Name: "\x00a"}}, api.ErrName},
		{"bad comment", []Part{{Comment: "\x00"}}, api.ErrName},
		{"bad name, then a wrong number", []Part{{Name: "a\x00"}, {Time: -1}}, api.ErrName},
		{"long name, then a wrong number", []Part{{}, {Name: long}, {Time: -1}}, api.ErrLong},
		{"a wrong number behind good parts", []Part{{}, {Name: "a"}, {More: 300}}, api.ErrArg},
	} {
		if got, err := Write(x.parts, nil); got != "" || err != x.want {
			t.Errorf("%s: %d bytes, %d, want %d", x.name, len(got), err, x.want)
		}
	}
	edge := []Part{{Name: long[1:], Comment: long[1:], Extra: wide[1:], Time: 1<<32 - 1, More: 255, System: 255}}
	if s, err := Write(edge, nil); s == "" || err != api.OK {
		t.Errorf("the edges: %d bytes, %d", len(s), err)
	}
	if s, err := Write(make([]Part, api.MaxMembers), nil); s == "" || err != api.OK {
		t.Errorf("the most parts: %d bytes, %d", len(s), err)
	}
}

func somePart(c *rand.Rand) Part {
	word := func(most int) string {
		if c.IntN(2) == 0 {
			return ""
		}
		return someBytes(c, c.IntN(most+1))
	}
	name := func() string { return strings.ReplaceAll(word(api.MaxName), "\x00", "o") }
	return Part{
		Name: name(), Comment: name(), Extra: word(300),
		Text: c.IntN(2) == 0, HeadSum: c.IntN(2) == 0,
		Time: c.IntN(1 << 32), More: c.IntN(256), System: c.IntN(256),
		Data: word(3000),
	}
}

func someParts(c *rand.Rand) ([]Part, []squeeze.Choice) {
	var parts []Part
	for range 1 + c.IntN(5) {
		parts = append(parts, somePart(c))
	}
	var choices []squeeze.Choice
	for range c.IntN(4) {
		choices = append(choices, squeeze.Choice{Kind: c.IntN(3), Size: c.IntN(2000), Reach: c.IntN(32769)})
	}
	return parts, choices
}

func sizeOf(parts []Part) int {
	size := 0
	for _, p := range parts {
		size += len(p.Data)
	}
	return size
}

// Read tells what was written, and so does another program.
func TestReadOfWrite(t *testing.T) {
	c := chance(3)
	for range 300 {
		parts, choices := someParts(c)
		keptParts, keptChoices := slices.Clone(parts), slices.Clone(choices)
		file, err := Write(parts, choices)
		if err != api.OK {
			t.Fatalf("%v: %d", parts, err)
		}
		if !slices.Equal(parts, keptParts) || !slices.Equal(choices, keptChoices) {
			t.Fatal("what is handed in is changed")
		}
		wantParts(t, "read again", file, sizeOf(parts), parts...)
		if n := sizeOf(parts); n > 0 {
			if l, f := Read(file, n-1); len(l) > 0 || f.Code != api.ErrLong {
				t.Errorf("one fewer: %d parts, %v", len(l), f)
			}
		}
		r, wrong := gzip.NewReader(strings.NewReader(file))
		if wrong != nil {
			t.Fatalf("another program: %v", wrong)
		}
		if int(r.OS) != parts[0].System || string(r.Extra) != parts[0].Extra {
			t.Errorf("another program: %d, %q", r.OS, r.Extra)
		}
		all := ""
		for _, p := range parts {
			all += p.Data
		}
		if s, wrong := io.ReadAll(r); string(s) != all || wrong != nil {
			t.Errorf("another program: %d bytes, %v, want %d", len(s), wrong, len(all))
		}
	}
	edge := Part{Name: strings.Repeat("n", api.MaxName), Comment: strings.Repeat("c", api.MaxName), Extra: strings.Repeat("e", 65535), HeadSum: true, Data: strings.Repeat("d", 70000)}
	file, _ := Write([]Part{edge, edge}, nil)
	wantParts(t, "the edges", file, 140000, edge, edge)
}

// An answer is new memory.
func TestReadTwice(t *testing.T) {
	file := headWith(0) + tail("ab") + headWith(0) + tail("cd")
	first, _ := Read(file, 4)
	second, _ := Read(file, 4)
	first[0].Data = "changed"
	if second[0].Data != "ab" {
		t.Error("two answers share their memory")
	}
}
