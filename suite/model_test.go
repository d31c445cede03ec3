package suite

import (
	"archive/tar"
	"bytes"
	"compress/gzip"
	"encoding/json"
	"fmt"
	"math/rand/v2"
	"regexp"
	"slices"
	"strings"
	"testing"
	"unicode/utf16"

	"ferret/api"
	"ferret/coding"
	"ferret/find"
	"ferret/gz"
	"ferret/syntax"
)

// The model is made of the library's programs: what is told of a text is written anew, by the chapters' words.

// source makes what is asked for; what is random in it is the same each time.
type source struct {
	*rand.Rand
	packers map[int]*gzip.Writer // by their level; a new one takes a megabyte
}

func newSource(seed uint64) source {
	return source{rand.New(rand.NewPCG(24, seed)), map[int]*gzip.Writer{}}
}

func (s source) yes() bool { return s.IntN(2) == 0 }

func pick[T any](s source, l ...T) T { return l[s.IntN(len(l))] }

// member: its name, its bytes, the text that they tell, and the place of the first that is bad, -1 where there is none.
type member struct {
	name, data, text string
	bad              int
}

var scalars = []rune{'a', 'a', 'a', 'b', 'b', 'b', 'c', 'k', 'K', ' ', '\n', '\n', '\n', '\t', '\r', 0x01, '"', '\\', 0xE4, 0xFF}

// further are those that Latin-1 hasn't.
var further = []rune{0x212A, 0x4E2D, 0x1F600, 0xFFFD, 0x0A0A}

func (s source) member(n int, faulty bool) member {
	m := member{name: pick(s, "f", "dir/g", strings.Repeat("h", 120), "i:\""), bad: -1}
	mark := s.yes()
	if n == coding.Auto {
		n = 1 + s.IntN(3)
		mark = mark || n != coding.UTF8
	}
	if mark {
		m.data = map[int]string{coding.UTF8: "\xEF\xBB\xBF", coding.Little: "\xFF\xFE", coding.Big: "\xFE\xFF"}[n]
	}
	for range s.IntN(pick(s, 3, 8, 60)) {
		r := pick(s, scalars...)
		if n != coding.Latin1 && s.IntN(5) == 0 {
			r = pick(s, further...)
		}
		m.text += string(r)
		m.data += encoded(r, n)
		if faulty && n != coding.Latin1 && s.IntN(20) == 0 {
			m.spoil(map[int]string{coding.UTF8: pick(s, "\xFF", "\xE2\x82", "\xF0\x9F\x98", "\xC3"), coding.Little: "\x00\xDC", coding.Big: "\xDC\x00"}[n])
		}
	}
	if faulty && s.IntN(20) == 0 && (n == coding.Little || n == coding.Big) {
		m.spoil("a")
	}
	return m
}

// spoil puts one behind that is bad.
func (m *member) spoil(data string) {
	if m.bad < 0 {
		m.bad = len(m.data)
	}
	m.data += data
	m.text += "\uFFFD"
}

func encoded(r rune, n int) string {
	var b []byte
	switch n {
	case coding.UTF8:
		return string(r)
	case coding.Latin1:
		return string([]byte{byte(r)})
	}
	for _, unit := range utf16.Encode([]rune{r}) {
		pair := []byte{byte(unit), byte(unit >> 8)}
		if n == coding.Big {
			slices.Reverse(pair)
		}
		b = append(b, pair...)
	}
	return string(b)
}

// blob of a container, which may be looked for or told, and what it holds; how many bytes are unpacked.
func (s source) blob(t *testing.T, n int, faulty bool) (string, int, []member, int) {
	container := 1 + s.IntN(4)
	l := []member{s.member(n, faulty)}
	data, unpacked := l[0].data, 0
	if container == Tar || container == TarGzip {
		for range s.IntN(4) {
			l = append(l, s.member(n, faulty))
		}
		data = s.archive(t, l)
	}
	name := ""
	if container == Gzip || container == TarGzip {
		unpacked = len(data)
		data, name = s.pack(t, data)
	}
	if container == Gzip || container == Raw {
		l[0].name = name
	}
	if s.yes() {
		container = AutoBlob
	}
	return data, container, l, unpacked
}

func (s source) archive(t *testing.T, l []member) string {
	var b bytes.Buffer
	w := tar.NewWriter(&b)
	format := pick(s, tar.FormatPAX, tar.FormatGNU)
	for _, m := range l {
		must(t, w.WriteHeader(&tar.Header{Name: m.name, Typeflag: tar.TypeReg, Size: int64(len(m.data)), Format: format}))
		_, err := w.Write([]byte(m.data))
		must(t, err)
		if s.IntN(3) == 0 {
			kind := pick[byte](s, tar.TypeDir, tar.TypeSymlink, tar.TypeLink, tar.TypeFifo)
			must(t, w.WriteHeader(&tar.Header{Name: "other", Linkname: "f", Typeflag: kind, Format: format}))
		}
	}
	must(t, w.Close())
	return b.String()
}

// pack packs bytes in a few parts; the name is the first one's.
func (s source) pack(t *testing.T, data string) (string, string) {
	var b bytes.Buffer
	name := pick(s, "", "n", "n.gz")
	for i := range 1 + s.IntN(3) {
		size := s.IntN(len(data) + 1)
		if b.Len() > 0 && s.yes() {
			size = len(data)
		}
		s.part(t, &b, []string{name, "second", ""}[i], data[:size])
		data = data[size:]
	}
	if data != "" {
		s.part(t, &b, "last", data)
	}
	return b.String(), name
}

func (s source) part(t *testing.T, b *bytes.Buffer, name, data string) {
	level := pick(s, gzip.NoCompression, gzip.BestSpeed, gzip.BestCompression, gzip.HuffmanOnly)
	if s.packers[level] == nil {
		s.packers[level], _ = gzip.NewWriterLevel(nil, level)
	}
	z := s.packers[level]
	z.Reset(b)
	z.Name = name
	_, err := z.Write([]byte(data))
	must(t, err)
	must(t, z.Close())
}

// patterns in which both programs see the same.
var patterns = []string{
	"", "a", "a", "b", "ab|b", "(a)(b)?", "a*", "a+?", "(?P<n>[ab]+)c?", "^", "$", "^a|b$", `\bk`, "k", "\u00E4", ".", ".+", `\n`, `b\n(.*)`, `b(\s*)(a|b)`, `[^\n"]`,
	"(a|ab)(c|bcd)?", `\s+`, "(?m)^.", "(?m).$", `\x{FFFD}`, "(?:ab)+", "[a-zK]+", "a??", "(c)|(k)|b", `\z`, `\A`, "[\u00E0-\U0001F600]", `(?s)a.b`, `(?s).*`, `"|\\`,
}

func (s source) options() Options {
	o := Options{Coding: s.IntN(5), Mode: s.IntN(5), Strict: s.yes(), Invert: s.IntN(3) == 0, Multi: s.yes(), Named: s.yes(), Pattern: pick(s, patterns...)}
	o.Flags = syntax.Flags{Fold: s.IntN(3) == 0, Lines: s.IntN(3) == 0, Dot: s.IntN(3) == 0, Lazy: s.IntN(5) == 0}
	o.Engine = find.Engine{Lazy: s.yes(), Words: s.yes(), States: s.IntN(30)}
	pieces := []string{"x", "$$", "${0}", "<", ">", "\n", "\u00E4"}
	groups := regexp.MustCompile(o.Pattern).NumSubexp()
	for i := range groups {
		pieces = append(pieces, fmt.Sprintf("${%d}", i+1))
	}
	if strings.Contains(o.Pattern, "<n>") {
		pieces = append(pieces, "${n}")
	}
	for range s.IntN(4) {
		o.Template += pick(s, pieces...)
	}
	return o
}

// matcher: the library's, of a pattern and its flags.
func matcher(o Options) *regexp.Regexp {
	flags := ""
	for _, f := range []struct {
		set    bool
		letter string
	}{{o.Flags.Fold, "i"}, {o.Flags.Lines, "m"}, {o.Flags.Dot, "s"}, {o.Flags.Lazy, "U"}} {
		if f.set {
			flags += f.letter
		}
	}
	if flags != "" {
		flags = "(?" + flags + ")"
	}
	return regexp.MustCompile(flags + o.Pattern)
}

// line of a text, as the model has it.
type line struct {
	number, from, to int
	touched          bool
	found            [][2]int
}

func linesOf(text string) []line {
	var l []line
	at := 0
	for i, s := range strings.SplitAfter(text, "\n") {
		if s != "" {
			l = append(l, line{number: i + 1, from: at, to: at + len(strings.TrimSuffix(s, "\n"))})
		}
		at += len(s)
	}
	return l
}

// toldOf: what is told of one member.
func toldOf(m member, o Options) string {
	re, all := matcher(o), linesOf(m.text)
	var matches [][]int
	if o.Multi {
		matches = re.FindAllStringSubmatchIndex(m.text, -1)
	} else {
		for _, l := range all {
			for _, notes := range re.FindAllStringSubmatchIndex(m.text[l.from:l.to], -1) {
				for i := range notes {
					if notes[i] != -1 {
						notes[i] += l.from
					}
				}
				matches = append(matches, notes)
			}
		}
	}
	if o.Mode == Replace {
		return replacedBy(re, m.text, o.Template, matches)
	}
	for _, notes := range matches {
		touch(all, notes[0], notes[1])
	}
	return linesTold(m, o, all, matches)
}

func replacedBy(re *regexp.Regexp, text, template string, matches [][]int) string {
	out, at := "", 0
	for _, notes := range matches {
		out += text[at:notes[0]] + string(re.ExpandString(nil, template, text, notes))
		at = notes[1]
	}
	return out + text[at:]
}

// touch tells lines of a match: the first one that it begins in, and all whose reach has a byte of it.
func touch(all []line, from, to int) {
	for i := range all {
		next := len(all) == i+1
		begins := all[i].from <= from && (next || from < all[i+1].from)
		reaches := from < to && from < all[i].to+1 && to > all[i].from
		if begins {
			all[i].found = append(all[i].found, [2]int{from - all[i].from, to - all[i].from})
		}
		all[i].touched = all[i].touched || begins || reaches
	}
}

func linesTold(m member, o Options, all []line, matches [][]int) string {
	head, plain, each, objects, count := "", "", "", "", 0
	if o.Named {
		head = m.name + ":"
	}
	for _, notes := range matches {
		each += fmt.Sprintf("%s%d:%s\n", head, notes[0], m.text[notes[0]:notes[1]])
	}
	for _, l := range all {
		if l.touched == o.Invert {
			continue
		}
		count++
		text := m.text[l.from:l.to]
		plain += fmt.Sprintf("%s%d:%s\n", head, l.number, text)
		spans := strings.ReplaceAll(fmt.Sprint(l.found), " ", ",")
		if o.Invert {
			spans = "[]"
		}
		objects += fmt.Sprintf(`{"name":%s,"line":%d,"text":%s,"spans":%s}`+"\n", quoted(m.name), l.number, quoted(text), spans)
	}
	return []string{Plain: plain, Objects: objects, Count: fmt.Sprintf("%s%d\n", head, count), Each: each}[o.Mode]
}

func quoted(s string) string {
	var b bytes.Buffer
	e := json.NewEncoder(&b)
	e.SetEscapeHTML(false)
	if err := e.Encode(s); err != nil {
		panic(err)
	}
	return strings.TrimSuffix(b.String(), "\n")
}

// runByWords: what is told of members, and the first Fault.
func runByWords(l []member, o Options) (string, Fault) {
	out := ""
	for i, m := range l {
		if o.Strict && m.bad >= 0 {
			return out, Fault{Code: api.ErrText, Member: i, At: m.bad}
		}
		told := toldOf(m, o)
		if len(out)+len(told) > o.Most {
			return out, Fault{Code: api.ErrLong, Member: i}
		}
		out += told
	}
	return out, Fault{}
}

func TestAgainstModel(t *testing.T) {
	s := newSource(1)
	var some, long, bad int
	for range 8000 {
		o := s.options()
		blob, container, l, unpacked := s.blob(t, o.Coding, s.IntN(3) == 0)
		o.Container, o.Most = container, api.MaxOut
		whole, _ := runByWords(l, o)
		o.Most = max(unpacked, pick(s, api.MaxOut, len(whole), len(whole)-1, s.IntN(len(whole)+1)))
		want, wrong := runByWords(l, o)
		got, fault := Run(blob, o)
		if got != want || fault != wrong {
			t.Fatalf("%+v over %+v: %q %v, want %q %v", o, l, got, fault, want, wrong)
		}
		if got != "" {
			some++
		}
		switch fault.Code {
		case api.ErrLong:
			long++
		case api.ErrText:
			bad++
		}
		checkMembers(t, blob, container, unpacked, l)
	}
	if some < 3000 || long < 600 || bad < 250 {
		t.Errorf("only %d times something was told, %d times it was too long, %d times a text was bad", some, long, bad)
	}
}

func checkMembers(t *testing.T, blob string, container, most int, want []member) {
	t.Helper()
	got, fault := Members(blob, container, most)
	same := slices.EqualFunc(got, want, func(a api.Member, b member) bool { return a.Name == b.name && a.Data == b.data })
	if !same || fault != (api.Fault{}) {
		t.Fatalf("%d: %q %v, want %+v", container, got, fault, want)
	}
}

// spoiled: a blob that is cut off, or has a few bytes that were others.
func (s source) spoiled(blob string) string {
	if blob == "" || s.IntN(3) == 0 {
		return blob[:s.IntN(len(blob)+1)]
	}
	b := []byte(blob)
	for range 1 + s.IntN(3) {
		b[s.IntN(len(b))] = byte(s.IntN(256))
	}
	return string(b)
}

// TestSpoiledBlobs: whatever the bytes, what is told is what is told of the members, each by itself; or there is a Fault at a place that there is.
func TestSpoiledBlobs(t *testing.T) {
	s := newSource(2)
	var inBlob, inMember, right int
	for range 8000 {
		o := s.options()
		blob, container, _, _ := s.blob(t, o.Coding, s.IntN(3) == 0)
		o.Container, o.Most = container, pick(s, api.MaxOut, api.MaxOut, api.MaxOut, s.IntN(3000))
		if s.IntN(10) == 0 {
			o.Container = s.IntN(5)
		}
		if s.IntN(3) > 0 {
			blob = s.spoiled(blob)
		}
		got, fault := Run(blob, o)
		members, met := Members(blob, o.Container, o.Most)
		if len(got) > o.Most || met != (api.Fault{}) && len(members) > 0 {
			t.Fatalf("%+v: %q, %q %v", o, got, members, met)
		}
		switch {
		case met != (api.Fault{}):
			inBlob++
			if got != "" || fault != in(InBlob, met) || met.Code <= 0 || met.At < 0 || met.At > max(len(blob), api.MaxOut) {
				t.Fatalf("%+v: %q %v, of %v", o, got, fault, met)
			}
			continue
		case fault != (Fault{}):
			inMember++
		default:
			right++
		}
		want, wrong := oneByOne(t, members, o)
		if got != want || fault != wrong {
			t.Fatalf("%+v over %q: %q %v, want %q %v", o, members, got, fault, want, wrong)
		}
		if fault != (Fault{}) && (fault.At < 0 || fault.At >= len(members[fault.Member].Data) && fault.Code == api.ErrText) {
			t.Fatalf("%+v over %q: %v", o, members, fault)
		}
	}
	if inBlob < 2000 || inMember < 300 || right < 2000 {
		t.Errorf("only %d times the blob was wrong, %d times a member, %d times none", inBlob, inMember, right)
	}
}

// oneByOne runs over each member as if it were packed alone, by its name.
func oneByOne(t *testing.T, members []api.Member, o Options) (string, Fault) {
	t.Helper()
	out := ""
	for i, m := range members {
		alone := o
		alone.Container, alone.Most = Gzip, api.MaxOut
		told, fault := Run(packed(t, gz.Part{Name: m.Name, Data: m.Data}), alone)
		if fault != (Fault{}) {
			fault.Member += i
			return out, fault
		}
		if len(out)+len(told) > o.Most {
			return out, Fault{Code: api.ErrLong, Member: i}
		}
		out += told
	}
	return out, Fault{}
}

// signs are put together to patterns, most of which may be read.
var signs = []string{
	"a", "a", "b", "b", "k", "ab", "aba", " ", "\u00E4", "\u4E2D", "(?i:k)", "[ab]", "[^a]", ".", "(?s:.)", `\w`, `\s`,
	"(?:", "(?:", "(", "(", "(", ")", ")", ")", ")", ")", "|", "|", "|", "*", "*", "+", "?", "?", "{2}", "{2,}", "{1,3}", "{0}", `\b`, `\B`, "^", "$", "(?m:^)", "(?m:$)", `\n`,
}

// TestEnginesTellTheSame: whatever the pattern, the mode and the engine.
func TestEnginesTellTheSame(t *testing.T) {
	s := newSource(3)
	some := 0
	for range 4000 {
		o := s.options()
		o.Pattern, o.Template = "", pick(s, "", "x", "<$0>")
		for range 1 + s.IntN(12) {
			o.Pattern += pick(s, signs...)
		}
		blob, container, _, _ := s.blob(t, o.Coding, s.IntN(3) == 0)
		o.Container, o.Most = container, pick(s, api.MaxOut, 5000)
		o.Engine = find.Engine{}
		want, wrong := Run(blob, o)
		if wrong.Member == InPattern {
			continue
		}
		if want != "" {
			some++
		}
		check(t, "engines", blob, o, want, wrong)
	}
	if some < 400 {
		t.Errorf("only %d times something was told", some)
	}
}
