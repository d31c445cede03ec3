package prog

import (
	"fmt"
	"math/rand/v2"
	"regexp"
	"slices"
	"strings"
	"testing"
	"unicode/utf8"

	"ferret/api"
	"ferret/simple"
	"ferret/syntax"
	"ferret/utfsplit"
)

// model: a simplified tree's instructions from a place on, by the chapter's words.
func model(n syntax.Node, at int) []Instr {
	switch n.Kind {
	case syntax.Empty:
		return nil
	case syntax.Class:
		var ways []func(at int) []Instr
		for _, w := range utfsplit.Split(n.Set) {
			ways = append(ways, func(at int) []Instr {
				var l []Instr
				for i, r := range w {
					l = append(l, Instr{Kind: 0, A: at + i + 1, Range: r})
				}
				return l
			})
		}
		return modelWays(ways, at)
	case syntax.Cat:
		var l []Instr
		for _, kid := range n.Kids {
			l = append(l, model(kid, at+len(l))...)
		}
		return l
	case syntax.Alt:
		var ways []func(at int) []Instr
		for _, kid := range n.Kids {
			ways = append(ways, func(at int) []Instr { return model(kid, at) })
		}
		return modelWays(ways, at)
	case syntax.Repeat:
		kid := model(n.Kids[0], at+1)
		behind := at + 1 + len(kid)
		if n.Max == -1 {
			kid = append(kid, Instr{Kind: 2, A: at})
			behind++
		}
		if n.Lazy {
			return append([]Instr{{Kind: 1, A: behind, B: at + 1}}, kid...)
		}
		return append([]Instr{{Kind: 1, A: at + 1, B: behind}}, kid...)
	case syntax.Group:
		l := append([]Instr{{Kind: 3, A: at + 1, B: 2 * n.Cap}}, model(n.Kids[0], at+1)...)
		return append(l, Instr{Kind: 3, A: at + len(l) + 1, B: 2*n.Cap + 1})
	}
	return []Instr{{Kind: 4, A: at + 1, B: n.Kind}}
}

// modelWays: the first one and behind its Jump all others, which end where it jumps to.
func modelWays(ways []func(at int) []Instr, at int) []Instr {
	switch len(ways) {
	case 0:
		return []Instr{{Kind: 6}}
	case 1:
		return ways[0](at)
	}
	first := ways[0](at + 1)
	second := at + 1 + len(first) + 1
	others := modelWays(ways[1:], second)
	l := append([]Instr{{Kind: 1, A: at + 1, B: second}}, first...)
	l = append(l, Instr{Kind: 2, A: second + len(others)})
	return append(l, others...)
}

func modelList(root syntax.Node) []Instr {
	l := append([]Instr{{Kind: 3, A: 1}}, model(root, 1)...)
	l = append(l, Instr{Kind: 3, A: len(l) + 1, B: 1})
	return append(l, Instr{Kind: 5})
}

// checkShape: each instruction goes on within the list, and has nothing that its kind doesn't name.
func checkShape(t *testing.T, what string, p Program) {
	t.Helper()
	for at, i := range p.List {
		within := func(place int) bool { return 0 < place && place < len(p.List) }
		named := Instr{Kind: i.Kind}
		ok := true
		switch i.Kind {
		case Byte:
			named.A, named.Range = i.A, i.Range
			ok = within(i.A) && 0 <= i.Range.From && i.Range.From <= i.Range.To && i.Range.To <= 255
		case Split:
			named.A, named.B = i.A, i.B
			ok = within(i.A) && within(i.B)
		case Jump:
			named.A = i.A
			ok = within(i.A)
		case Save:
			named.A, named.B = i.A, i.B
			ok = within(i.A) && 0 <= i.B && i.B < max(2*p.Groups, 2)
		case Assert:
			named.A, named.B = i.A, i.B
			ok = within(i.A) && syntax.BeginText <= i.B && i.B <= syntax.NotWord
		case Match:
			ok = at == len(p.List)-1
		case Fail:
		default:
			ok = false
		}
		if !ok || named != i {
			t.Fatalf("%.60s: instruction %d is %+v", what, at, i)
		}
	}
}

// signs are put together to patterns, most of which may be read.
var signs = []string{
	"a", "b", "k", "ab", " ", "\u00E4", "\u4E2D", "\U00010400", "(?i:k)", "(?i:\u00E4)", "[ab]", "[^a]", "[\u00E0-\u4E2D]", "[a\u00E4\u4E2D-\U00010427]", ".", "(?s:.)",
	"(?:", "(?:", "(", "(", ")", ")", ")", ")", "|", "|", "*", "+", "?", "{2}", "{2,}", "{1,3}", "{0,2}", "{0}", "?", `\b`, `\B`, "^", "$", "(?m:^)", "(?m:$)", `\n`, `\x{DABC}`,
}

func somePattern(source *rand.Rand, most int) (string, syntax.Pattern, bool) {
	var b strings.Builder
	b.WriteString([]string{"", "", "", "(?U)"}[source.IntN(4)])
	for range 1 + source.IntN(most) {
		b.WriteString(signs[source.IntN(len(signs))])
	}
	p, fault := syntax.Parse(b.String(), syntax.Flags{})
	return b.String(), p, fault == api.Fault{}
}

func TestCompileAgainstModel(t *testing.T) {
	source := rand.New(rand.NewPCG(14, 1))
	right, big := 0, 0
	for range 100000 {
		text, p, ok := somePattern(source, 14)
		if !ok {
			continue
		}
		was := fmt.Sprint(p)
		got, err := Compile(p)
		if fmt.Sprint(p) != was {
			t.Fatalf("%q was changed: %v", text, p)
		}
		root, bigRoot := simple.Simplify(p.Root)
		var want []Instr
		if bigRoot == api.OK {
			want = modelList(root)
		}
		if bigRoot != api.OK || len(want) > api.MaxProgram {
			big++
			checkBig(t, text, p)
			continue
		}
		right++
		if err != api.OK || got.Groups != len(p.Names) || !slices.Equal(got.List, want) {
			t.Fatalf("%q: %d groups, %v: %s", text, got.Groups, err, lines(got))
		}
		checkShape(t, text, got)
	}
	if right < 10000 {
		t.Errorf("only %d patterns were compiled, %d too big", right, big)
	}
}

// TestTextAgainstModel: a line for each, in other means.
func TestTextAgainstModel(t *testing.T) {
	source := rand.New(rand.NewPCG(14, 2))
	for range 5000 {
		text, p, ok := somePattern(source, 14)
		got, err := Compile(p)
		if !ok || err != api.OK {
			continue
		}
		var want strings.Builder
		for at, i := range got.List {
			name := []string{"byte", "split", "jump", "save", "assert", "match", "fail"}[i.Kind]
			numbers := [][]int{{i.Range.From, i.Range.To, i.A}, {i.A, i.B}, {i.A}, {i.B, i.A}, {i.B, i.A}, nil, nil}[i.Kind]
			fmt.Fprintf(&want, "%d %s", at, name)
			for _, n := range numbers {
				fmt.Fprintf(&want, " %d", n)
			}
			want.WriteByte('\n')
		}
		if got.Text() != want.String() {
			t.Fatalf("%q: %s", text, lines(got))
		}
	}
}

// runner follows a program's ways over a text, the first ones first.
type runner struct {
	Program
	text string
	been map[[2]int]bool
}

func (r *runner) run(at, place int, notes []int) []int {
	for {
		if r.been[[2]int{at, place}] {
			return nil
		}
		r.been[[2]int{at, place}] = true
		i := r.List[at]
		switch i.Kind {
		case Byte:
			if place == len(r.text) || int(r.text[place]) < i.Range.From || int(r.text[place]) > i.Range.To {
				return nil
			}
			place++
		case Split:
			if l := r.run(i.A, place, notes); l != nil {
				return l
			}
			at = i.B
			continue
		case Save:
			notes = slices.Clone(notes)
			notes[i.B] = place
		case Assert:
			if !Holds(i.B, r.text, place) {
				return nil
			}
		case Match:
			return notes
		case Fail:
			return nil
		}
		at = i.A
	}
}

// find begins at scalars alone, as the other program does: in its view nothing is between the bytes of one.
func find(p Program, text string) []int {
	r := runner{p, text, map[[2]int]bool{}}
	for from := range len(text) + 1 {
		if from < len(text) && !utf8.RuneStart(text[from]) {
			continue
		}
		if l := r.run(0, from, slices.Repeat([]int{-1}, 2*p.Groups)); l != nil {
			return l
		}
	}
	return nil
}

// TestFindsTheSame: what another program finds by a pattern, a run of its instructions finds.
func TestFindsTheSame(t *testing.T) {
	source := rand.New(rand.NewPCG(14, 3))
	right, found := 0, 0
	for range 60000 {
		text, p, ok := somePattern(source, 12)
		got, err := Compile(p)
		if !ok || err != api.OK || mayBeEmpty(p.Root) || strings.Contains(text, "DABC") {
			continue
		}
		other := regexp.MustCompile(text)
		right++
		for range 10 {
			var b strings.Builder
			for range source.IntN(12) {
				b.WriteString([]string{"a", "b", "k", "K", " ", "\n", "\u00E4", "\u00C4", "\u4E2D", "\U00010400", "\u212A"}[source.IntN(11)])
			}
			want, l := other.FindStringSubmatchIndex(b.String()), find(got, b.String())
			if !slices.Equal(l, want) {
				t.Fatalf("%q over %q: %v, want %v: %s", text, b.String(), l, want, lines(got))
			}
			if l != nil {
				found++
			}
		}
	}
	if right < 2000 || found < 5000 {
		t.Errorf("only %d patterns were looked for, %d times something was found", right, found)
	}
}

// mayBeEmpty: is there a Repeat of what may be empty? Of such the other program has ways of its own.
func mayBeEmpty(n syntax.Node) bool {
	if n.Kind == syntax.Repeat && emptyFits(n.Kids[0]) {
		return true
	}
	return slices.ContainsFunc(n.Kids, mayBeEmpty)
}

func emptyFits(n syntax.Node) bool {
	switch n.Kind {
	case syntax.Class:
		return false
	case syntax.Cat:
		return !slices.ContainsFunc(n.Kids, func(kid syntax.Node) bool { return !emptyFits(kid) })
	case syntax.Alt:
		return slices.ContainsFunc(n.Kids, emptyFits)
	case syntax.Repeat:
		return n.Min == 0 || emptyFits(n.Kids[0])
	case syntax.Group:
		return emptyFits(n.Kids[0])
	}
	return true
}

func TestEveryListIsItsOwn(t *testing.T) {
	p := parsed(t, "(a|b[^c])*d{2,5}?")
	first, _ := Compile(p)
	second, _ := Compile(p)
	was := first.Text()
	if second.Text() != was {
		t.Errorf("%s, and then %s", was, second.Text())
	}
	for i := range second.List[:cap(second.List)] {
		second.List[:cap(second.List)][i] = Instr{Kind: Fail, A: 99}
	}
	third, _ := Compile(p)
	if first.Text() != was || third.Text() != was {
		t.Errorf("memory is shared: %s, %s", first.Text(), third.Text())
	}
}
