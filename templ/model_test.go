package templ

import (
	"math/rand/v2"
	"regexp"
	"slices"
	"strconv"
	"strings"
	"testing"

	"ferret/api"
	"ferret/find"
	"ferret/syntax"
)

// signs are what a $ may begin, told by a pattern of the library's.
var signs = regexp.MustCompile(`^\$(?:(\$)|([0-9]{1,4})|\{([0-9]{1,4})\}|\{([^}]+)\})`)

func parseByWords(text string, names []string) ([]Piece, api.Fault) {
	if len(text) > api.MaxTemplate {
		return nil, api.Fault{Code: api.ErrLong}
	}
	var units []Piece // one for each byte that is itself
	for at := 0; at < len(text); {
		if text[at] != '$' {
			units = append(units, says(text[at:at+1]))
			at++
			continue
		}
		parts := signs.FindStringSubmatch(text[at:])
		if parts == nil {
			return nil, wrong(at)
		}
		number, isNumber := -1, parts[2]+parts[3] != ""
		if isNumber {
			number, _ = strconv.Atoi(parts[2] + parts[3])
		}
		for i, name := range names {
			if name == parts[4] && name != "" && number < 0 {
				number = i
			}
		}
		switch {
		case parts[1] != "":
			units = append(units, says("$"))
		case number < 0 || number >= len(names):
			return nil, wrong(at)
		default:
			units = append(units, group(number))
		}
		at += len(parts[0])
	}
	var l []Piece
	for i := 0; i < len(units); i++ {
		together := units[i]
		for together.Group == -1 && i+1 < len(units) && units[i+1].Group == -1 {
			i++
			together.Text += units[i].Text
		}
		l = append(l, together)
	}
	return l, right
}

func expandByWords(l []Piece, text string, notes []int) string {
	out := ""
	for _, p := range l {
		if p.Group < 0 {
			out += p.Text
			continue
		}
		for i := 0; i+1 < len(notes); i += 2 {
			if i/2 == p.Group && notes[i] >= 0 && notes[i+1] >= 0 && notes[i] <= notes[i+1] && notes[i+1] <= len(text) {
				out += text[notes[i]:notes[i+1]]
			}
		}
	}
	return out
}

// replaceByWords goes from the last match to the first, so that places stay what they are.
func replaceByWords(text string, matches [][]int, l []Piece) string {
	out := text
	for _, notes := range slices.Backward(matches) {
		out = out[:notes[0]] + expandByWords(l, text, notes) + out[notes[1]:]
	}
	return out
}

var pieces = []string{"a", "$", "$", "$$", "{", "}", "${", "${", "0", "1", "2", "12", "n", "n_2", "00001", "$1", "$0", "${n}", "${2}", "${n_2}", "\u00E4", "\xFF", "\x00", "_"}

var allNames = []string{"", "n", "", "n_2", "12", "00001", "_", "0", "a", "n1", "", "", "2"}

func someText(source *rand.Rand, most int) string {
	var b strings.Builder
	for range source.IntN(most) {
		b.WriteString(pieces[source.IntN(len(pieces))])
	}
	return b.String()
}

func TestParseAgainstModel(t *testing.T) {
	source := rand.New(rand.NewPCG(21, 1))
	good, bad, long := 0, 0, 0
	for range 200000 {
		text, names := someText(source, 7), allNames[:source.IntN(len(allNames)+1)]
		if source.IntN(1000) == 0 {
			text += strings.Repeat("a", api.MaxTemplate-3)
		}
		got, fault := Parse(text, names)
		want, wantFault := parseByWords(text, names)
		if !slices.Equal(got, want) || fault != wantFault {
			t.Fatalf("%q, %q: %v %v, want %v %v", text, names, got, fault, want, wantFault)
		}
		switch {
		case fault.Code == api.ErrLong:
			long++
		case fault != right:
			bad++
		case len(got) > 1:
			good++
		}
		checkPieces(t, text, got, len(names))
	}
	if good < 20000 || bad < 50000 || long < 20 {
		t.Errorf("only %d were right, %d wrong, %d too long", good, bad, long)
	}
}

// checkPieces: a Piece is a text that isn't empty, or a group that there is; no two texts stand side by side.
func checkPieces(t *testing.T, text string, l []Piece, groups int) {
	t.Helper()
	for i, p := range l {
		isText := p.Group == -1 && p.Text != ""
		isGroup := 0 <= p.Group && p.Group < groups && p.Text == ""
		beside := i > 0 && p.Group == -1 && l[i-1].Group == -1
		if isText == isGroup || beside {
			t.Fatalf("%q: piece %d is %v", text, i, p)
		}
	}
}

// someMatches lie one behind the other, as layer 19 tells them, with notes for so many groups.
func someMatches(source *rand.Rand, size, groups int) [][]int {
	var l [][]int
	for at := source.IntN(3); at <= size; {
		to := min(at+source.IntN(4), size)
		notes := []int{at, to}
		for range groups {
			from := at + source.IntN(to-at+1)
			pair := []int{from, from + source.IntN(to-from+1)}
			if source.IntN(3) == 0 {
				pair = []int{-1, -1}
			}
			notes = append(notes, pair...)
		}
		l = append(l, notes)
		at = to + source.IntN(4)
		if at == to {
			at++
		}
	}
	return l
}

func TestReplaceAgainstModel(t *testing.T) {
	source := rand.New(rand.NewPCG(21, 2))
	more := 0
	for range 100000 {
		text := someText(source, 12)
		matches := someMatches(source, len(text), source.IntN(4))
		var l []Piece
		for range source.IntN(5) {
			if source.IntN(2) == 0 {
				l = append(l, group(source.IntN(6)))
			} else {
				l = append(l, says(pieces[source.IntN(len(pieces))]))
			}
		}
		want := replaceByWords(text, matches, l)
		for most := len(want) - 2; most < len(want)+2; most++ {
			got, ok := Replace(text, matches, l, most)
			if fits := most >= len(want); ok != fits || fits && got != want || !fits && got != "" {
				t.Fatalf("%q, %v, %v, %d: %q %v, want %q", text, matches, l, most, got, ok, want)
			}
		}
		for _, notes := range matches {
			if got, want := Expand(l, text, notes), expandByWords(l, text, notes); got != want {
				t.Fatalf("%v of %q, %v: %q, want %q", l, text, notes, got, want)
			}
		}
		if len(matches) > 1 && len(want) > len(text) {
			more++
		}
	}
	if more < 20000 {
		t.Errorf("only %d grew", more)
	}
}

// TestReplaceOfMatches: what is found by layer 19 is replaced as the library's expressions replace it.
func TestReplaceOfMatches(t *testing.T) {
	source := rand.New(rand.NewPCG(21, 3))
	patterns := []string{"a", "(a)|(b)", "a*", "(a|ab)(c|bcd)?", "(?P<n>a+)(?P<m>b*)", "b??", "(x)|", "(?P<n>.)(?P<m>.)?", "^|$", `\b`, "(?m)^(?P<n>a?)"}
	templates := []string{"", "-", "$0", "$$", "<${1}>", "$1$1", "${n}x", "[${m}$0]", "${2}", "$$${1}$$"}
	letters := []string{"a", "b", "c", "d", "x", "\u00E4", " ", "\n"}
	count := 0
	for _, pattern := range patterns {
		library := regexp.MustCompile(pattern)
		p, fault := syntax.Parse(pattern, syntax.Flags{})
		if fault != right {
			t.Fatal(pattern, fault)
		}
		finder, _ := find.New(p, find.Engine{})
		for _, template := range templates {
			l, fault := Parse(template, p.Names)
			if fault != right {
				continue // the library takes a group that there isn't for an empty one
			}
			for range 200 {
				var b strings.Builder
				for range source.IntN(10) {
					b.WriteString(letters[source.IntN(len(letters))])
				}
				text := b.String()
				want := library.ReplaceAllString(text, template)
				got, ok := Replace(text, finder.All(text, 99), l, 9999)
				if !ok || got != want {
					t.Fatalf("%q of %q, %q: %q %v, want %q", template, pattern, text, got, ok, want)
				}
				count++
			}
		}
	}
	if count < 10000 {
		t.Errorf("only %d were looked at", count)
	}
}
