package dfa

import (
	"math/rand/v2"
	"strings"
	"testing"

	"ferret/api"
	"ferret/pike"
	"ferret/prog"
	"ferret/syntax"
)

// signs are put together to patterns, most of which may be read.
var signs = []string{
	"a", "a", "b", "b", "k", "ab", " ", "\u00E4", "\u4E2D", "(?i:k)", "[ab]", "[^a]", "[\u00E0-\u4E2D]", ".", "(?s:.)",
	"(?:", "(?:", "(", "(", ")", ")", ")", ")", "|", "|", "|", "*", "*", "+", "?", "?", "{2}", "{2,}", "{1,3}", "{0,2}", "{0}", `\b`, `\B`, "^", "$", "(?m:^)", "(?m:$)", `\n`,
}

func somePattern(source *rand.Rand, most int) (string, prog.Program, bool) {
	var b strings.Builder
	b.WriteString([]string{"", "", "", "(?U)"}[source.IntN(4)])
	for range 1 + source.IntN(most) {
		b.WriteString(signs[source.IntN(len(signs))])
	}
	p, fault := syntax.Parse(b.String(), syntax.Flags{})
	if fault != (api.Fault{}) {
		return "", prog.Program{}, false
	}
	x, err := prog.Compile(p)
	return b.String(), x, err == api.OK && len(x.List) < 1000
}

var pieces = []string{"a", "a", "b", "b", "k", "K", " ", "\n", "\u00E4", "\u4E2D", "\u212A", "\xFF", "\xC3", "\xA4", "\x00"}

func someText(source *rand.Rand, most int) string {
	var b strings.Builder
	for range source.IntN(most) {
		b.WriteString(pieces[source.IntN(len(pieces))])
	}
	return b.String()
}

// wanted: the second place that layer 15 notes.
func wanted(p prog.Program, text string, from int, fixed bool) int {
	if l := pike.Run(p, text, from, fixed); len(l) > 1 {
		return l[1]
	}
	return none
}

// TestEndAsPike: whatever was asked before, and however many states are kept.
func TestEndAsPike(t *testing.T) {
	source := rand.New(rand.NewPCG(16, 1))
	patterns, found := 0, 0
	for range 100000 {
		what, p, ok := somePattern(source, 14)
		if !ok {
			continue
		}
		patterns++
		machines := []*DFA{New(p, api.MinStates), New(p, 4+source.IntN(20)), New(p, api.MaxStates)}
		for range 8 {
			text := someText(source, 14)
			from, fixed := source.IntN(len(text)+3)-1, source.IntN(3) == 0
			want := wanted(p, text, from, fixed)
			for _, d := range machines {
				checkEnd(t, d, what, text, from, fixed, want)
			}
			if want != none {
				found++
			}
		}
	}
	if patterns < 8000 || found < 20000 {
		t.Errorf("only %d patterns, %d times something was found", patterns, found)
	}
}

// TestEveryPlace: each place of longer texts, from which a further match may begin.
func TestEveryPlace(t *testing.T) {
	source := rand.New(rand.NewPCG(16, 2))
	for range 3000 {
		what, p, ok := somePattern(source, 10)
		if !ok {
			continue
		}
		d := New(p, 4+source.IntN(30))
		text := someText(source, 60)
		for from := range len(text) + 1 {
			checkEnd(t, d, what, text, from, anywhere, wanted(p, text, from, anywhere))
			checkEnd(t, d, what, text, from, fixed, wanted(p, text, from, fixed))
		}
	}
}
