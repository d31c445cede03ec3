package show

import (
	"fmt"
	"math/rand/v2"
	"slices"
	"strings"
	"testing"

	"ferret/api"
	"ferret/sets"
	"ferret/syntax"
	"ferret/ucd"
)

// told: a node as a text that has all its fields, those that should be zero included.
func told(n syntax.Node) string {
	var b strings.Builder
	fmt.Fprintf(&b, "(%d %v %v %d %d %v %d %q", n.Kind, []api.Range(n.Set), n.Fold, n.Min, n.Max, n.Lazy, n.Cap, n.Name)
	for _, kid := range n.Kids {
		b.WriteString(told(kid))
	}
	return b.String() + ")"
}

// TestPatternsAreReadAgain: what the trees of these are shown as, and that Parse gives the same tree of it.
func TestPatternsAreReadAgain(t *testing.T) {
	for _, c := range []struct {
		text, want string
	}{
		{"", "(?:)"},
		{"a|(?i)b{2}", "a|(?i:b){2}"},
		{"(?:ab)*", "(?:ab)*"},
		{"(?:(?:ab))c", "(?:ab)c"},
		{"(?:a)b", "ab"},
		{"(a|)", "(a|(?:))"},
		{"()", "((?:))"},
		{"a(b|)*?", "a(b|(?:))*?"},
		{"^a+?$", `\Aa+?\z`},
		{"(?m)^a$", "(?m:^)a(?m:$)"},
		{`\A\b\B\z`, `\A\b\B\z`},
		{"(?U)a*b*?", "a*?b*"},
		{"(?i-i)a(?i)", "a"},
		{"(?i).", `(?i:[\x{0}-\x{9}\x{B}-\x{10FFFF}])`},
		{"(?s).", `[\x{0}-\x{10FFFF}]`},
		{"(?P<n>x){1,}", "(?P<n>x)+"},
		{"a{0,}b{0,1}c{1,1}d{0001,02}", "a*b?c{1}d{1,2}"},
		{"[a-c.]", `[\x{2E}\x{61}-\x{63}]`},
		{"[a-a]", "a"},
		{"[^\\d\\D]", `[^\x{0}-\x{10FFFF}]`},
		{`\x{e4}\x41\.\n`, `\x{E4}A\.\x{A}`},
		{"a{,2}", `a\{\,2\}`},
		{"\u00E4 \\_", `\x{E4}\x{20}\_`},
	} {
		p, fault := syntax.Parse(c.text, syntax.Flags{})
		if got := Show(p.Root); fault != (api.Fault{}) || got != c.want {
			t.Errorf("%q: %q, %v; want %q", c.text, got, fault, c.want)
		}
		q, fault := syntax.Parse(c.want, syntax.Flags{})
		if fault != (api.Fault{}) || told(q.Root) != told(p.Root) || !slices.Equal(p.Names, q.Names) {
			t.Errorf("%q, shown as %q: %s, %v", c.text, c.want, told(q.Root), fault)
		}
	}
}

// words that patterns are made of below.
var words = []string{
	"a", "b", "k", "0", "_", ",", "-", "^", "$", ".", "|", "|", "*", "+", "?", "}", "{", "(", "(", ")", ")", ")", " ", "\n", "\u00E4", "\u212A", "\U0001F600",
	"(?i)", "(?i-s:", "(?U)", "(?-U:", "(?m)", "(?s)", "(?:", "(?:", "(?P<a>", "(?P<b>", "{2}", "{2,}", "{2,3}", "{64}", "{0}", "{,2}",
	"[ab]", "[^a-c]", "[]a]", "[^\\d\\D]", "\\d", "\\W", "\\b", "\\B", "\\A", "\\z", "\\n", "\\-", "\\x{D800}", "\\x{10FFFF}", "\\p{Lu}", "\\P{Any}",
}

func somePattern(source *rand.Rand) (syntax.Pattern, bool) {
	var b strings.Builder
	for range source.IntN(12) {
		b.WriteString(words[source.IntN(len(words))])
	}
	n := source.IntN(16)
	p, fault := syntax.Parse(b.String(), syntax.Flags{Fold: n&1 != 0, Lines: n&2 != 0, Dot: n&4 != 0, Lazy: n&8 != 0})
	return p, fault == api.Fault{}
}

func TestAnyPatternIsReadAgain(t *testing.T) {
	source := rand.New(rand.NewPCG(11, 1))
	again := 0
	for range 100000 {
		p, ok := somePattern(source)
		s := Show(p.Root)
		if !ok || len(s) > api.MaxPattern {
			continue
		}
		again++
		q, fault := syntax.Parse(s, syntax.Flags{})
		if fault != (api.Fault{}) || told(p.Root) != told(q.Root) || !slices.Equal(p.Names, q.Names) {
			t.Fatalf("%q: %s, %v; was %s", s, told(q.Root), fault, told(p.Root))
		}
	}
	if again < 10000 {
		t.Errorf("only %d trees were shown", again)
	}
}

// someTree: one that is made of Parse's nodes by hand, groups' numbers in any order.
func someTree(source *rand.Rand, deep int) syntax.Node {
	k := source.IntN(12)
	if deep == 0 && k >= syntax.Cat {
		k = syntax.Class
	}
	n := syntax.Node{Kind: k}
	kids := 0
	switch k {
	case syntax.Class:
		n.Set, n.Fold = someSet(source), source.IntN(3) == 0
	case syntax.Cat, syntax.Alt:
		kids = 2 + source.IntN(3)
	case syntax.Repeat:
		n.Min, n.Max, n.Lazy, kids = source.IntN(4), source.IntN(5)-1, source.IntN(2) == 0, 1
		if n.Max >= 0 {
			n.Max = max(n.Min, n.Max)
		}
	case syntax.Group:
		n.Cap, kids = source.IntN(9), 1
	}
	for range kids {
		n.Kids = append(n.Kids, someTree(source, deep-1))
	}
	return n
}

func someSet(source *rand.Rand) sets.Set {
	if source.IntN(2) == 0 {
		r := source.IntN(0x100)
		return ranges(r, r)
	}
	var s sets.Set
	for range source.IntN(3) {
		r := source.IntN(api.MaxRune + 1)
		s = s.Or(ranges(r, r+source.IntN(3)))
	}
	return s
}

func TestAnyTreeIsShownAgain(t *testing.T) {
	source := rand.New(rand.NewPCG(11, 2))
	again := 0
	for range 20000 {
		n := someTree(source, 4)
		was, s := told(n), Show(n)
		if told(n) != was {
			t.Fatalf("%s was changed: %s", was, told(n))
		}
		if len(s) > api.MaxPattern {
			continue
		}
		again++
		p, fault := syntax.Parse(s, syntax.Flags{})
		if got := Show(p.Root); fault != (api.Fault{}) || got != s {
			t.Fatalf("%q: %q, %v", s, got, fault)
		}
	}
	if again < 10000 {
		t.Errorf("only %d trees were shown", again)
	}
}

func TestAnySetIsReadAgain(t *testing.T) {
	l := []sets.Set{nil, ranges(0, api.MaxRune)}
	for _, name := range ucd.Names() {
		s, _ := ucd.Class(name)
		l = append(l, s, s.Not())
	}
	source := rand.New(rand.NewPCG(11, 3))
	for range 5000 {
		l = append(l, someSet(source))
	}
	for _, s := range l {
		p, fault := syntax.Parse(Class(s), syntax.Flags{})
		if fault != (api.Fault{}) || p.Root.Kind != syntax.Class || !p.Root.Set.Same(s) {
			t.Errorf("%q: %s, %v; want %v", Class(s), told(p.Root), fault, s)
		}
	}
}

// TestSizeAgainstList: the nodes laid out in a list, each with how many are above it.
func TestSizeAgainstList(t *testing.T) {
	type place struct {
		node  syntax.Node
		depth int
	}
	source := rand.New(rand.NewPCG(11, 4))
	for range 5000 {
		n := someTree(source, source.IntN(6))
		l := []place{{n, 1}}
		deepest := 0
		for i := 0; i < len(l); i++ {
			deepest = max(deepest, l[i].depth)
			for _, kid := range l[i].node.Kids {
				l = append(l, place{kid, l[i].depth + 1})
			}
		}
		if nodes, below := Size(n); nodes != len(l) || below != deepest {
			t.Fatalf("%q: %d, %d, want %d, %d", Show(n), nodes, below, len(l), deepest)
		}
	}
}
