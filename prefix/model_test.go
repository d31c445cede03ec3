package prefix

import (
	"math/rand/v2"
	"slices"
	"strings"
	"testing"

	"ferret/api"
	"ferret/pike"
	"ferret/prog"
	"ferret/simple"
	"ferret/syntax"
)

// signs are put together to patterns, most of which may be read.
var signs = []string{
	"a", "a", "b", "b", "k", "ab", "ba", " ", "\u00E4", "\u4E2D", "(?i:k)", "[a]", "[ab]", "[^a]", "[\u00E0-\u4E2D]", ".", "(?s:.)", `\x{D800}`,
	"(?:", "(?:", "(", "(", "(", ")", ")", ")", ")", ")", "|", "|", "*", "+", "?", "?", "{2}", "{2,}", "{1,3}", "{0,2}", "{0}", `\b`, `\B`, "^", "$", "(?m:^)", "(?m:$)", `\n`,
}

func somePattern(source *rand.Rand, most int) (string, syntax.Node, prog.Program, bool) {
	var b strings.Builder
	b.WriteString([]string{"", "", "", "(?U)"}[source.IntN(4)])
	for range 1 + source.IntN(most) {
		b.WriteString(signs[source.IntN(len(signs))])
	}
	p, fault := syntax.Parse(b.String(), syntax.Flags{})
	if fault != (api.Fault{}) {
		return "", syntax.Node{}, prog.Program{}, false
	}
	root, err := simple.Simplify(p.Root)
	x, big := prog.Compile(p)
	return b.String(), root, x, err == api.OK && big == api.OK && len(x.List) < 1000
}

// pieces of texts, those that patterns have and others.
var pieces = []string{"a", "a", "a", "b", "b", "k", "K", " ", "\n", "\u00E4", "\u4E2D", "\u212A", "\xFF", "\xC3", "\xA4", "\x00"}

func someText(source *rand.Rand, most int) string {
	var b strings.Builder
	for range source.IntN(most) {
		b.WriteString(pieces[source.IntN(len(pieces))])
	}
	return b.String()
}

// told: the leaves that are told by bytes, one behind the other, up to one that isn't; so written, there are no rows in rows.
func told(n syntax.Node) (string, bool) {
	text := ""
	for open := []syntax.Node{n}; len(open) > 0; {
		next := open[0]
		open = open[1:]
		switch {
		case next.Kind == syntax.Empty:
		case next.Kind == syntax.Cat || next.Kind == syntax.Group:
			open = append(slices.Clone(next.Kids), open...)
		case next.Kind == syntax.Class && next.Set.Size() == 1:
			text += string(rune(next.Set[0].From))
		default:
			return text, false
		}
	}
	return text, true
}

// reached: what may be come to without a byte, found by going over all instructions until nothing new is found.
func reached(p prog.Program) ([256]bool, bool) {
	var bytes [256]bool
	empty := false
	been := make([]bool, len(p.List))
	been[0] = true
	for more := true; more; {
		more = false
		for at, i := range p.List {
			if !been[at] {
				continue
			}
			var to []int
			switch i.Kind {
			case 0:
				for b := i.Range.From; b <= i.Range.To; b++ {
					bytes[b] = true
				}
			case 1:
				to = []int{i.A, i.B}
			case 2, 3, 4:
				to = []int{i.A}
			case 5:
				empty = true
			}
			for _, place := range to {
				more = more || !been[place]
				been[place] = true
			}
		}
	}
	return bytes, empty
}

func TestAgainstModels(t *testing.T) {
	source := rand.New(rand.NewPCG(18, 2))
	patterns, words, whole := 0, 0, 0
	for range 100000 {
		what, root, p, ok := somePattern(source, 12)
		if !ok {
			continue
		}
		patterns++
		word, all := Literal(root)
		if want, wantAll := told(root); word != want || all != wantAll {
			t.Fatalf("%q: %q, %v; want %q, %v", what, word, all, want, wantAll)
		}
		if word != "" {
			words++
		}
		if all {
			whole++
		}
		first, empty := First(p)
		bytes, wantEmpty := reached(p)
		for b, want := range bytes {
			if first.Has(b) != want || empty != wantEmpty {
				t.Fatalf("%q: %v, %v; of %d: %v, %v", what, first, empty, b, want, wantEmpty)
			}
		}
		if len(first) > 0 && (first[0].From < 0 || first[len(first)-1].To > 255) {
			t.Fatalf("%q: %v", what, first)
		}
	}
	if patterns < 10000 || words < 4000 || whole < 1000 {
		t.Errorf("only %d patterns, of which %d begin with bytes that are told, %d wholly", patterns, words, whole)
	}
}

// TestMatchesBeginWhereNextTells: at all places at which one begins, and with the bytes that are told.
func TestMatchesBeginWhereNextTells(t *testing.T) {
	source := rand.New(rand.NewPCG(18, 3))
	begun, passed := 0, 0
	for range 60000 {
		what, root, p, ok := somePattern(source, 10)
		if !ok {
			continue
		}
		word, whole := Literal(root)
		first, empty := First(p)
		for range 5 {
			text := someText(source, 14)
			for from := range len(text) + 1 {
				notes := pike.Run(p, text, from, true)
				next := Next(text, word, first, empty, from)
				if next != from {
					passed++
				}
				if notes == nil {
					if whole && next == from {
						t.Fatalf("%q is %q, and doesn't match in %q at %d", what, word, text, from)
					}
					continue
				}
				begun++
				match := text[notes[0]:notes[1]]
				if next != from || !strings.HasPrefix(match, word) || whole && match != word {
					t.Fatalf("%q matches %q in %q at %d, and begins with %q (%v); the next place is %d", what, match, text, from, word, whole, next)
				}
				if match == "" && !empty || match != "" && !first.Has(int(match[0])) {
					t.Fatalf("%q matches %q, and may begin with %v, or have no bytes: %v", what, match, first, empty)
				}
			}
		}
	}
	if begun < 100000 || passed < 50000 {
		t.Errorf("only %d matches began, %d places were passed over", begun, passed)
	}
}

// TestMatchesOfLongWords: what a pattern tells may be longer than the pattern, and than layer 17 looks for.
func TestMatchesOfLongWords(t *testing.T) {
	root, p := made(t, "(?:(?:ab{3}){50}){10}c?")
	word, whole := Literal(root)
	first, empty := First(p)
	if len(word) != 2000 || whole {
		t.Fatalf("%d bytes, %v", len(word), whole)
	}
	text := strings.Repeat("abbb", 700) + "ab" + strings.Repeat("abbb", 600)
	for from := 0; from <= len(text); from += 37 {
		begins := -1
		if l := pike.Run(p, text, from, false); l != nil {
			begins = l[0]
		}
		if next := Next(text, word, first, empty, from); next != begins {
			t.Fatalf("from %d a match begins at %d, the next place is %d", from, begins, next)
		}
	}
}
