package print

import (
	"bytes"
	library "encoding/json"
	"fmt"
	"math/rand/v2"
	"regexp"
	"slices"
	"strings"
	"testing"
	"unicode/utf8"

	"ferret/api"
	"ferret/json"
)

var pieces = []string{"a", "b", "\u00E4", "\xFF", "\xE2\x82", "\"", "\\", "\t", "\x01", "\r", "\uFEFF", "\U0001F600", "\n", "\n", "\n", "\n\n", ":", "abc"}

func someText(source *rand.Rand, most int) string {
	var b strings.Builder
	for range source.IntN(most) {
		b.WriteString(pieces[source.IntN(len(pieces))])
	}
	return b.String()
}

// someSpans rise by their From; they may lie over one another.
func someSpans(source *rand.Rand, size int) []api.Span {
	var l []api.Span
	for range source.IntN(6) {
		from := source.IntN(size + 1)
		l = append(l, span(from, from+source.IntN(size-from+1)))
	}
	slices.SortStableFunc(l, func(a, b api.Span) int { return a.From - b.From })
	return l
}

func someResult(source *rand.Rand) Result {
	text := someText(source, 20)
	return result(someText(source, 4), source.IntN(2) == 0, text, source.IntN(4) == 0, someSpans(source, len(text))...)
}

func TestTextsAgainstModel(t *testing.T) {
	source := rand.New(rand.NewPCG(23, 1))
	for range 50000 {
		r := someResult(source)
		ahead := ""
		if r.Named {
			ahead = r.Name + ":"
		}
		plain, each := "", ""
		all := strings.Split(r.Text, "\n")
		for _, line := range r.Lines {
			plain += fmt.Sprintf("%s%d:%s\n", ahead, line.Number, all[line.Number-1])
		}
		for _, s := range r.Found {
			each += fmt.Sprintf("%s%d:%s\n", ahead, s.From, r.Text[s.From:s.To])
		}
		if got := r.Plain(); got != plain {
			t.Fatalf("%v: Plain %q, want %q", r, got, plain)
		}
		if got := r.Each(); got != each {
			t.Fatalf("%v: Each %q, want %q", r, got, each)
		}
		if got, want := r.Count(), fmt.Sprintf("%s%d\n", ahead, len(r.Lines)); got != want {
			t.Fatalf("%v: Count %q, want %q", r, got, want)
		}
	}
}

// TestObjectsAgain: each line is read again as what it was made of, and the library reads the same.
func TestObjectsAgain(t *testing.T) {
	source := rand.New(rand.NewPCG(23, 2))
	seen := 0
	for range 50000 {
		r := someResult(source)
		all := strings.Split(r.Text, "\n")
		told := strings.SplitAfter(r.Objects(), "\n")
		if last := len(told) - 1; told[last] != "" || last != len(r.Lines) {
			t.Fatalf("%v: %q", r, told)
		}
		for i, line := range r.Lines {
			wantText, wantName := textByRunes(all[line.Number-1]), textByRunes(r.Name)
			var want []api.Span
			for _, place := range line.Found {
				want = append(want, span(r.Found[place].From-line.Span.From, r.Found[place].To-line.Span.From))
			}
			name, number, text, spans, ok := Read(told[i])
			if !ok || name != wantName || number != line.Number || text != wantText || !slices.Equal(spans, want) {
				t.Fatalf("%v: %s is read as %q %d %q %v %v, want %q %d %q %v", r, told[i], name, number, text, spans, ok, wantName, line.Number, wantText, want)
			}
			checkByLibrary(t, told[i], name, number, text, spans)
			seen += len(spans)
		}
	}
	if seen < 20000 {
		t.Errorf("only %d spans were told", seen)
	}
}

// textByRunes: the text, with FFFD for each bad one. E2 82 is the one of two bytes among the pieces.
func textByRunes(s string) string {
	var b strings.Builder
	for s != "" {
		r, size := utf8.DecodeRuneInString(s)
		if strings.HasPrefix(s, "\xE2\x82") {
			size = max(size, 2)
		}
		b.WriteRune(r)
		s = s[size:]
	}
	return b.String()
}

func checkByLibrary(t *testing.T, line, name string, number int, text string, spans []api.Span) {
	t.Helper()
	var o struct {
		Name  string
		Line  int
		Text  string
		Spans [][2]int
	}
	strict := library.NewDecoder(strings.NewReader(line))
	strict.DisallowUnknownFields()
	if err := strict.Decode(&o); err != nil || o.Name != name || o.Line != number || o.Text != text || len(o.Spans) != len(spans) {
		t.Fatalf("%s: the library has %v %v", line, o, err)
	}
	for i, s := range o.Spans {
		if s != [2]int{spans[i].From, spans[i].To} {
			t.Fatalf("%s: the library has %v", line, o)
		}
	}
	var short bytes.Buffer
	if err := library.Compact(&short, []byte(line)); err != nil || short.String()+"\n" != line {
		t.Fatalf("%s has blanks: %v", line, err)
	}
}

// showByWords: what Read told, as the one text that Show has of it; so a line that is read must show so, too.
func showByWords(name string, number int, text string, spans []api.Span) string {
	out := fmt.Sprintf(`{"name":%s,"line":%d,"text":%s,"spans":[`, json.Quote(name), number, json.Quote(text))
	for i, s := range spans {
		if i > 0 {
			out += ","
		}
		out += fmt.Sprintf("[%d,%d]", s.From, s.To)
	}
	return out + "]}"
}

// fits: the shown texts that are to be read.
var fits = func() *regexp.Regexp {
	const text, number = `"(?:[^"\\]|\\.)*"`, `(?:0|[1-9][0-9]{0,17})`
	const pair = `\[` + number + `,` + number + `\]`
	return regexp.MustCompile(`(?s)^\{"name":` + text + `,"line":` + number + `,"text":` + text + `,"spans":\[(?:` + pair + `(?:,` + pair + `)*)?\]\}$`)
}()

var bytesForMutants = []byte("[]{},:\"\\ \n0123456789.eE+-ntfulinespaxm\x00\x80\xC3\xFF")

// mutant: a line with a few bytes put, taken away or changed.
func mutant(source *rand.Rand, line string) string {
	b := []byte(line)
	for range 1 + source.IntN(2) {
		place := source.IntN(len(b))
		c := bytesForMutants[source.IntN(len(bytesForMutants))]
		switch source.IntN(3) {
		case 0:
			b = slices.Insert(b, place, c)
		case 1:
			b = slices.Delete(b, place, place+1)
		default:
			b[place] = c
		}
	}
	return string(b)
}

// TestMutants: a line is read just where its value shows as what was read of it does.
func TestMutants(t *testing.T) {
	source := rand.New(rand.NewPCG(23, 3))
	lines := []string{
		`{"name":"a","line":2,"text":"xay","spans":[[1,2]]}`,
		`{"name":"","line":10,"text":"","spans":[]}`,
		`{"name":"n","line":123456789012345678,"text":"x","spans":[[0,10],[7,70]]}`,
	}
	read, not, wrong := 0, 0, 0
	for range 100000 {
		line := mutant(source, lines[source.IntN(len(lines))])
		name, number, text, spans, ok := Read(line)
		v, fault := json.Parse(line)
		shown := json.Show(v)
		switch {
		case fault.Code != api.OK:
			wrong++
			refused(t, line)
		case ok:
			read++
			if want := showByWords(name, number, text, spans); shown != want {
				t.Fatalf("%q: %s is read as %s", line, shown, want)
			}
		default:
			not++
			refused(t, line)
			if fits.MatchString(shown) {
				t.Fatalf("%q isn't read", line)
			}
		}
	}
	if read < 5000 || not < 5000 || wrong < 5000 {
		t.Errorf("only %d were read, %d not, %d were wrong", read, not, wrong)
	}
}
