package pike

import (
	"math/rand/v2"
	"regexp"
	"slices"
	"strings"
	"testing"

	"ferret/api"
	"ferret/prog"
	"ferret/syntax"
)

// runner follows a program's ways one behind the other, by the chapter's words.
type runner struct {
	prog.Program
	text string
	been map[[2]int]bool
}

func (r *runner) run(at, place int, notes []int) []int {
	for !r.been[[2]int{at, place}] {
		r.been[[2]int{at, place}] = true
		i := r.List[at]
		switch i.Kind {
		case prog.Byte:
			if place == len(r.text) || int(r.text[place]) < i.Range.From || int(r.text[place]) > i.Range.To {
				return nil
			}
			place++
		case prog.Split:
			if l := r.run(i.A, place, notes); l != nil {
				return l
			}
			at = i.B
			continue
		case prog.Save:
			notes = slices.Clone(notes)
			notes[i.B] = place
		case prog.Assert:
			if !prog.Holds(i.B, r.text, place) {
				return nil
			}
		case prog.Match:
			return notes
		case prog.Fail:
			return nil
		}
		at = i.A
	}
	return nil
}

func byWords(p prog.Program, text string, from int, fixed bool) []int {
	r := runner{p, text, map[[2]int]bool{}}
	for begin := from; begin <= len(text); begin++ {
		if l := r.run(0, begin, slices.Repeat([]int{-1}, 2*p.Groups)); l != nil || fixed {
			return l
		}
	}
	return nil
}

// signs are put together to patterns, most of which may be read.
var signs = []string{
	"a", "a", "b", "b", "k", "ab", " ", "\u00E4", "\u4E2D", "(?i:k)", "[ab]", "[^a]", "[\u00E0-\u4E2D]", ".", "(?s:.)",
	"(?:", "(?:", "(", "(", "(", ")", ")", ")", ")", ")", "|", "|", "|", "*", "*", "+", "?", "?", "{2}", "{2,}", "{1,3}", "{0,2}", "{0}", `\b`, `\B`, "^", "$", "(?m:^)", "(?m:$)", `\n`,
}

func somePattern(source *rand.Rand, most int) (string, syntax.Pattern, prog.Program, bool) {
	var b strings.Builder
	b.WriteString([]string{"", "", "", "(?U)"}[source.IntN(4)])
	for range 1 + source.IntN(most) {
		b.WriteString(signs[source.IntN(len(signs))])
	}
	p, fault := syntax.Parse(b.String(), syntax.Flags{})
	if fault != (api.Fault{}) {
		return "", p, prog.Program{}, false
	}
	x, err := prog.Compile(p)
	return b.String(), p, x, err == api.OK && len(x.List) < 1000
}

// pieces of texts; the first ones are whole scalars.
var pieces = []string{"a", "a", "b", "b", "k", "K", " ", "\n", "\u00E4", "\u4E2D", "\u212A", "\xFF", "\xC3", "\xA4", "\x00"}

const whole = 11

func someText(source *rand.Rand, most, kinds int) string {
	var b strings.Builder
	for range source.IntN(most) {
		b.WriteString(pieces[source.IntN(kinds)])
	}
	return b.String()
}

// checkNotes: all lie within the match, of each group both or neither, in order.
func checkNotes(t *testing.T, what, text string, from int, fixed bool, groups int, l []int) {
	t.Helper()
	right := len(l) == 2*groups && from <= l[0] && l[0] <= l[1] && l[1] <= len(text) && (!fixed || l[0] == from)
	for i := 0; right && i < len(l); i += 2 {
		neither := l[i] == -1 && l[i+1] == -1
		right = neither && i > 0 || l[0] <= l[i] && l[i] <= l[i+1] && l[i+1] <= l[1]
	}
	if !right {
		t.Fatalf("%q over %q from %d, of %d groups: %v", what, text, from, groups, l)
	}
}

func TestRunAgainstModel(t *testing.T) {
	source := rand.New(rand.NewPCG(15, 1))
	patterns, found := 0, 0
	for range 150000 {
		what, _, p, ok := somePattern(source, 14)
		if !ok {
			continue
		}
		patterns++
		for range 8 {
			text := someText(source, 12, len(pieces))
			from, fixed := source.IntN(len(text)+1), source.IntN(3) == 0
			got, want := Run(p, text, from, fixed), byWords(p, text, from, fixed)
			if !slices.Equal(got, want) {
				t.Fatalf("%q over %q from %d, fixed %v: %v, want %v\n%s", what, text, from, fixed, got, want, p.Text())
			}
			if got != nil {
				found++
				checkNotes(t, what, text, from, fixed, p.Groups, got)
			}
		}
	}
	if patterns < 10000 || found < 40000 {
		t.Errorf("only %d patterns, %d times something was found", patterns, found)
	}
}

// TestRunAsElsewhere: what another program finds, in texts in which both see the same.
func TestRunAsElsewhere(t *testing.T) {
	source := rand.New(rand.NewPCG(15, 2))
	patterns, found := 0, 0
	for range 100000 {
		what, tree, p, ok := somePattern(source, 12)
		if !ok || repeatsEmpty(tree.Root) {
			continue
		}
		other := regexp.MustCompile(what)
		patterns++
		kinds := whole
		if strings.Contains(what, `\B`) {
			kinds = 8 // bytes alone: the other program has nothing between those of one scalar
		}
		for range 8 {
			text := someText(source, 12, kinds)
			got, want := Run(p, text, 0, anywhere), other.FindStringSubmatchIndex(text)
			if !slices.Equal(got, want) {
				t.Fatalf("%q over %q: %v, want %v\n%s", what, text, got, want, p.Text())
			}
			if got != nil {
				found++
			}
		}
	}
	if patterns < 3000 || found < 8000 {
		t.Errorf("only %d patterns, %d times something was found", patterns, found)
	}
}

// repeatsEmpty: is there a Repeat of what may be empty? Of such the other program has ways of its own.
func repeatsEmpty(n syntax.Node) bool {
	if n.Kind == syntax.Repeat && emptyFits(n.Kids[0]) {
		return true
	}
	return slices.ContainsFunc(n.Kids, repeatsEmpty)
}

func emptyFits(n syntax.Node) bool {
	switch n.Kind {
	case syntax.Class:
		return false
	case syntax.Cat:
		return !slices.ContainsFunc(n.Kids, func(kid syntax.Node) bool { return !emptyFits(kid) })
	case syntax.Alt:
		return slices.ContainsFunc(n.Kids, emptyFits)
	case syntax.Repeat:
		return n.Min == 0 || emptyFits(n.Kids[0])
	case syntax.Group:
		return emptyFits(n.Kids[0])
	}
	return true
}

// TestEachInstructionOnce: at no place do two ways go on at one instruction, and the rows hold no more than that.
func TestEachInstructionOnce(t *testing.T) {
	source := rand.New(rand.NewPCG(15, 3))
	for range 20000 {
		what, _, p, ok := somePattern(source, 14)
		if !ok {
			continue
		}
		m := newMachine(p, someText(source, 30, whole))
		for place := range len(m.text) + 1 {
			m.goOn(place)
			m.begin(place)
			ways := slices.Sorted(slices.Values(m.next.ways))
			if len(slices.Compact(ways)) != len(m.next.ways) || len(m.next.notes) != len(m.next.ways)*2*p.Groups {
				t.Fatalf("%q over %q at %d: %v", what, m.text, place, m.next)
			}
		}
	}
}
