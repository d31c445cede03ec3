package find

import (
	"math/rand/v2"
	"regexp"
	"slices"
	"strings"
	"testing"

	"ferret/api"
	"ferret/prog"
	"ferret/syntax"
)

// runner follows a program's ways one behind the other, by layer 15's words.
type runner struct {
	prog.Program
	text string
	been map[[2]int]bool
}

func (r *runner) run(at, place int, notes []int) []int {
	for !r.been[[2]int{at, place}] {
		r.been[[2]int{at, place}] = true
		i := r.List[at]
		switch i.Kind {
		case prog.Byte:
			if place == len(r.text) || int(r.text[place]) < i.Range.From || int(r.text[place]) > i.Range.To {
				return nil
			}
			place++
		case prog.Split:
			if l := r.run(i.A, place, notes); l != nil {
				return l
			}
			at = i.B
			continue
		case prog.Save:
			notes = slices.Clone(notes)
			notes[i.B] = place
		case prog.Assert:
			if !prog.Holds(i.B, r.text, place) {
				return nil
			}
		case prog.Match:
			return notes
		case prog.Fail:
			return nil
		}
		at = i.A
	}
	return nil
}

func firstByWords(p prog.Program, text string, from int) []int {
	r := runner{p, text, map[[2]int]bool{}}
	for begin := from; begin <= len(text); begin++ {
		if l := r.run(0, begin, slices.Repeat([]int{-1}, 2*p.Groups)); l != nil {
			return l
		}
	}
	return nil
}

// allByWords: each match is looked for, also those that aren't told.
func allByWords(p prog.Program, text string, most int) [][]int {
	var told [][]int
	from, last := 0, -1
	for from <= len(text) && len(told) < most {
		l := firstByWords(p, text, from)
		if l == nil {
			return told
		}
		if l[0] == l[1] && l[0] == last {
			from = nextByWords(text, l[0])
			continue
		}
		told = append(told, l)
		from, last = l[1], l[1]
	}
	return told
}

// nextByWords: behind the text's length, where there is none.
func nextByWords(text string, p int) int {
	for q := p + 1; q < p+4; q++ {
		if q >= len(text) || text[q] < 0x80 || text[q] > 0xBF {
			return q
		}
	}
	return p + 4
}

// signs are put together to patterns, most of which may be read.
var signs = []string{
	"a", "a", "b", "b", "k", "ab", "aba", " ", "\u00E4", "\u4E2D", "(?i:k)", "[ab]", "[^a]", "[\u00E0-\u4E2D]", ".", "(?s:.)",
	"(?:", "(?:", "(", "(", "(", ")", ")", ")", ")", ")", "|", "|", "|", "*", "*", "+", "?", "?", "{2}", "{2,}", "{1,3}", "{0,2}", "{0}", `\b`, `\B`, "^", "$", "(?m:^)", "(?m:$)", `\n`,
}

func somePattern(source *rand.Rand, most int) (string, syntax.Pattern, prog.Program, bool) {
	var b strings.Builder
	b.WriteString([]string{"", "", "", "(?U)"}[source.IntN(4)])
	for range 1 + source.IntN(most) {
		b.WriteString(signs[source.IntN(len(signs))])
	}
	p, fault := syntax.Parse(b.String(), syntax.Flags{})
	if fault != (api.Fault{}) {
		return "", p, prog.Program{}, false
	}
	x, err := prog.Compile(p)
	return b.String(), p, x, err == api.OK && len(x.List) < 1000
}

// pieces of texts; the first ones are whole scalars.
var pieces = []string{"a", "a", "a", "b", "b", "b", "k", "K", " ", "\n", "\u00E4", "\u4E2D", "\u212A", "\xFF", "\xC3", "\xA4", "\x00", "\x80\x80\x80\x80\x80"}

const (
	plain = 10
	whole = 13
)

func someText(source *rand.Rand, most, kinds int) string {
	var b strings.Builder
	for range source.IntN(most) {
		b.WriteString(pieces[source.IntN(kinds)])
	}
	return b.String()
}

// someEngine: of all kinds, with few states or with many.
func someEngine(source *rand.Rand) Engine {
	return Engine{Lazy: source.IntN(2) == 0, Words: source.IntN(2) == 0, States: source.IntN(20)}
}

func TestAgainstModel(t *testing.T) {
	source := rand.New(rand.NewPCG(19, 1))
	patterns, found, empty := 0, 0, 0
	for range 60000 {
		what, tree, p, ok := somePattern(source, 12)
		if !ok {
			continue
		}
		patterns++
		e := someEngine(source)
		f, err := New(tree, e)
		if err != api.OK || f.Groups() != p.Groups {
			t.Fatalf("%v: %q: %v %v", e, what, f, err)
		}
		for range 8 {
			text := someText(source, 14, len(pieces))
			from, count := source.IntN(len(text)+1), 1+source.IntN(8)
			if got, want := f.First(text, from), firstByWords(p, text, from); !slices.Equal(got, want) {
				t.Fatalf("%v: %q over %q from %d: %v, want %v", e, what, text, from, got, want)
			}
			got, want := f.All(text, count), allByWords(p, text, count)
			if !alike(got, want) {
				t.Fatalf("%v: %q over %q, at most %d: %v, want %v", e, what, text, count, got, want)
			}
			for i, l := range got {
				found++
				if i > 0 && l[0] == l[1] {
					empty++
				}
			}
		}
	}
	if patterns < 8000 || found < 100000 || empty < 40000 {
		t.Errorf("only %d patterns, %d times something was found, %d times it was empty", patterns, found, empty)
	}
}

// TestEnginesTellTheSame: over texts so long that states are given up and words are looked for in several pieces.
func TestEnginesTellTheSame(t *testing.T) {
	source := rand.New(rand.NewPCG(19, 2))
	patterns, found := 0, 0
	for range 8000 {
		what, tree, _, ok := somePattern(source, 16)
		if !ok {
			continue
		}
		patterns++
		text := someText(source, 400, len(pieces))
		plain, _ := New(tree, Engine{})
		want := plain.All(text, most)
		found += len(want)
		for _, e := range engines {
			f, _ := New(tree, e)
			if got := f.All(text, most); !alike(got, want) {
				t.Fatalf("%v: %q over %q: %v, want %v", e, what, text, got, want)
			}
			for range 5 {
				from := source.IntN(len(text) + 1)
				if got, want := f.First(text, from), plain.First(text, from); !slices.Equal(got, want) {
					t.Fatalf("%v: %q over %q from %d: %v, want %v", e, what, text, from, got, want)
				}
			}
		}
	}
	if patterns < 1000 || found < 50000 {
		t.Errorf("only %d patterns, %d times something was found", patterns, found)
	}
}

// TestAllAsElsewhere: what another program finds, in texts in which both see the same.
func TestAllAsElsewhere(t *testing.T) {
	source := rand.New(rand.NewPCG(19, 3))
	patterns, found := 0, 0
	for range 40000 {
		what, tree, _, ok := somePattern(source, 12)
		if !ok || repeatsEmpty(tree.Root) {
			continue
		}
		patterns++
		f, _ := New(tree, someEngine(source))
		other := regexp.MustCompile(what)
		kinds := whole
		if strings.Contains(what, `\B`) {
			kinds = plain // the other program has nothing between the bytes of one scalar
		}
		for range 8 {
			text := someText(source, 14, kinds)
			got, want := f.All(text, most), other.FindAllStringSubmatchIndex(text, -1)
			if !alike(got, want) {
				t.Fatalf("%v: %q over %q: %v, want %v", f.Engine, what, text, got, want)
			}
			found += len(got)
		}
	}
	if patterns < 1500 || found < 15000 {
		t.Errorf("only %d patterns, %d times something was found", patterns, found)
	}
}

// repeatsEmpty: is there a Repeat of what may be empty? Of such the other program has ways of its own.
func repeatsEmpty(n syntax.Node) bool {
	if n.Kind == syntax.Repeat && emptyFits(n.Kids[0]) {
		return true
	}
	return slices.ContainsFunc(n.Kids, repeatsEmpty)
}

func emptyFits(n syntax.Node) bool {
	switch n.Kind {
	case syntax.Class:
		return false
	case syntax.Cat:
		return !slices.ContainsFunc(n.Kids, func(kid syntax.Node) bool { return !emptyFits(kid) })
	case syntax.Alt:
		return slices.ContainsFunc(n.Kids, emptyFits)
	case syntax.Repeat:
		return n.Min == 0 || emptyFits(n.Kids[0])
	case syntax.Group:
		return emptyFits(n.Kids[0])
	}
	return true
}
