package prefix

import (
	"fmt"
	"math"
	"slices"
	"strings"
	"testing"

	"ferret/api"
	"ferret/prog"
	"ferret/sets"
	"ferret/simple"
	"ferret/syntax"
)

// made: a pattern's simplified tree, and its program.
func made(t *testing.T, text string) (syntax.Node, prog.Program) {
	t.Helper()
	p, fault := syntax.Parse(text, syntax.Flags{})
	if fault != (api.Fault{}) {
		t.Fatalf("%q: %v", text, fault)
	}
	root, err := simple.Simplify(p.Root)
	if err != api.OK {
		t.Fatalf("%q: %v", text, err)
	}
	x, err := prog.Compile(p)
	if err != api.OK {
		t.Fatalf("%q: %v", text, err)
	}
	return root, x
}

func span(from, to int) api.Range {
	return api.Range{From: from, To: to}
}

func one(b int) api.Range {
	return span(b, b)
}

func TestLiteralByHand(t *testing.T) {
	for _, c := range []struct {
		pattern, want string
		whole         bool
	}{
		{"ab*c", "a", false},
		{"(ab)c", "abc", true},

		{"", "", true},
		{"()", "", true},
		{"(?:)", "", true},
		{"a", "a", true},
		{"abc", "abc", true},
		{"[a]b", "ab", true},
		{"[a-b]b", "", false},
		{"a[bc]d", "a", false},
		{".", "", false},
		{"a.", "a", false},
		{`a\d`, "a", false},
		{`\x{0}`, "\x00", true},

		// Scalars of more bytes.
		{"\u007F\u0080\u07FF\u0800\uFFFF\U00010000\U0010FFFF", "\u007F\u0080\u07FF\u0800\uFFFF\U00010000\U0010FFFF", true},
		{"\u00E4x?", "\u00E4", false},
		{`\x{E4}`, "\xC3\xA4", true},
		{`\x{D7FF}\x{E000}`, "\uD7FF\uE000", true},
		{`\x{D800}`, "", false},
		{`a\x{DFFF}b`, "a", false},
		{`[\x{D7FF}-\x{DFFF}]b`, "\uD7FFb", true},
		{`\x{FEFF}a`, "\uFEFFa", true},

		// Case.
		{"(?i)a", "", false},
		{"(?i)1-a", "1-", false},
		{"(?i:x)a", "", false},
		{"x(?i:a)y", "x", false},

		// Borders end what is told.
		{"^", "", false},
		{"$", "", false},
		{"^a", "", false},
		{"a$", "a", false},
		{`\ba`, "", false},
		{`a\Bb`, "a", false},
		{"(?m)^a", "", false},
		{"(?m)a$b", "a", false},
		{`\Aa\z`, "", false},
		{"(a^)b", "a", false},

		// Alternatives and repeats.
		{"a|b", "", false},
		{"a|a", "", false},
		{"ab|ac", "", false},
		{"x(?:a|b)", "x", false},
		{"a*", "", false},
		{"a?", "", false},
		{"a*?b", "", false},
		{"a+", "a", false},
		{"a+?", "a", false},
		{"xa?y", "x", false},
		{"a{3}", "aaa", true},
		{"(?:ab){2}c", "ababc", true},
		{"a{0}", "", true},
		{"a{0}b", "b", true},
		{"a{2,}b", "aa", false},
		{"a{2,3}b", "aa", false},
		{"(ab){2}", "abab", true},
		{"(?:)*", "", false},

		// Groups.
		{"(a)", "a", true},
		{"(?P<n>a)b", "ab", true},
		{"((a)(b))c", "abc", true},
		{"(ab*)c", "a", false},
		{"a(b(c(d)))e", "abcde", true},
		{"a(b(c(d?)))e", "abc", false},
		{"(a)*b", "", false},
		{"a()b", "ab", true},
		{"(a|b)c", "", false},
	} {
		root, _ := made(t, c.pattern)
		if got, whole := Literal(root); got != c.want || whole != c.whole {
			t.Errorf("%q: %q, %v; want %q, %v", c.pattern, got, whole, c.want, c.whole)
		}
	}
}

// TestLongLiterals: bounded repeats tell more bytes than a pattern has.
func TestLongLiterals(t *testing.T) {
	root, _ := made(t, "(?:a{64}){60}b")
	want := strings.Repeat("a", 64*60) + "b"
	if got, whole := Literal(root); got != want || !whole {
		t.Errorf("%d bytes, %v", len(got), whole)
	}
	root, _ = made(t, strings.Repeat("(", api.MaxNest)+"ab"+strings.Repeat(")", api.MaxNest)+"c")
	if got, whole := Literal(root); got != "abc" || !whole {
		t.Errorf("%q, %v", got, whole)
	}
}

// TestLiteralOfOtherTrees that no pattern has: there is an answer.
func TestLiteralOfOtherTrees(t *testing.T) {
	a := syntax.Node{Kind: syntax.Class, Set: sets.Of(one('a'))}
	half := syntax.Node{Kind: syntax.Class, Set: sets.Set{one(0xD800)}}
	for _, c := range []struct {
		tree  syntax.Node
		want  string
		whole bool
	}{
		{syntax.Node{}, "", true},
		{syntax.Node{Kind: syntax.Class}, "", false},
		{half, "", false},
		{syntax.Node{Kind: syntax.Cat, Kids: []syntax.Node{a, half, a}}, "a", false},
		{syntax.Node{Kind: syntax.Cat}, "", true},
		{syntax.Node{Kind: syntax.Cat, Kids: []syntax.Node{a, {Kind: syntax.Cat, Kids: []syntax.Node{a, {}, a}}, a}}, "aaaa", true},
		{syntax.Node{Kind: syntax.Group}, "", true},
		{syntax.Node{Kind: syntax.Alt, Kids: []syntax.Node{a}}, "", false},
		{syntax.Node{Kind: syntax.Repeat, Min: 1, Max: 1, Kids: []syntax.Node{a}}, "", false},
		{syntax.Node{Kind: 12, Kids: []syntax.Node{a}}, "", false},
		{syntax.Node{Kind: -1, Kids: []syntax.Node{a}}, "", false},
		{syntax.Node{Kind: math.MaxInt}, "", false},
	} {
		if got, whole := Literal(c.tree); got != c.want || whole != c.whole {
			t.Errorf("%v: %q, %v; want %q, %v", c.tree, got, whole, c.want, c.whole)
		}
	}
	for kind := syntax.BeginText; kind <= syntax.NotWord; kind++ {
		if got, whole := Literal(syntax.Node{Kind: kind}); got != "" || whole {
			t.Errorf("a border of kind %d: %q, %v", kind, got, whole)
		}
	}
}

func TestFirstByHand(t *testing.T) {
	for _, c := range []struct {
		pattern string
		empty   bool
		want    []api.Range
	}{
		{"a*[bc]|\u00E4", false, []api.Range{span('a', 'c'), one(0xC3)}},

		{"", true, nil},
		{"()", true, nil},
		{"a", false, []api.Range{one('a')}},
		{"ab", false, []api.Range{one('a')}},
		{"a|b", false, []api.Range{span('a', 'b')}},
		{"a|c", false, []api.Range{one('a'), one('c')}},
		{"a|", true, []api.Range{one('a')}},
		{"|a", true, []api.Range{one('a')}},
		{"a*", true, []api.Range{one('a')}},
		{"a*?", true, []api.Range{one('a')}},
		{"a*b", false, []api.Range{span('a', 'b')}},
		{"a*?c", false, []api.Range{one('a'), one('c')}},
		{"a?b?c?", true, []api.Range{span('a', 'c')}},
		{"a?b?c?d", false, []api.Range{span('a', 'd')}},
		{"a+b", false, []api.Range{one('a')}},
		{"(a*)*b", false, []api.Range{span('a', 'b')}},
		{"(?:(?:)*)*", true, nil},
		{"(?:a|(?:)*)*", true, []api.Range{one('a')}},
		{"a{0}", true, nil},
		{"(?i)k", false, []api.Range{one('K'), one('k'), one(0xE2)}},
		{".", false, []api.Range{span(0, 9), span(11, 0x7F), span(0xC2, 0xF4)}},
		{"(?s).", false, []api.Range{span(0, 0x7F), span(0xC2, 0xF4)}},
		{"\u4E2D\u00E4", false, []api.Range{one(0xE4)}},
		{`[\x{80}-\x{BF}]`, false, []api.Range{one(0xC2)}},
		{`[\x{D7FF}-\x{E000}]`, false, []api.Range{span(0xED, 0xEE)}},

		// Borders are gone over, whether they hold or not; what fails goes nowhere.
		{"^", true, nil},
		{"$", true, nil},
		{"$a", false, []api.Range{one('a')}},
		{`\ba|\B `, false, []api.Range{one(' '), one('a')}},
		{`\z\Aa?`, true, []api.Range{one('a')}},
		{`(?m)$^b|\B\b`, true, []api.Range{one('b')}},
		{`\x{D800}`, false, nil},
		{`\x{D800}|a`, false, []api.Range{one('a')}},
		{`\x{D800}*a`, false, []api.Range{one('a')}},
		{`\x{D800}*`, true, nil},
	} {
		_, p := made(t, c.pattern)
		got, empty := First(p)
		if !slices.Equal(got, c.want) || empty != c.empty {
			t.Errorf("%q: %v, %v; want %v, %v", c.pattern, got, empty, c.want, c.empty)
		}
	}
}

// TestFirstOfGreatPrograms: ways that go through nearly all that a program may have.
func TestFirstOfGreatPrograms(t *testing.T) {
	_, p := made(t, "(?:(?:a?){64}){31}(?:b?){4}c")
	got, empty := First(p)
	if !slices.Equal(got, []api.Range{span('a', 'c')}) || empty {
		t.Errorf("%v, %v of %d instructions", got, empty, len(p.List))
	}
	_, p = made(t, "(?:(?:^*){40}){40}")
	if got, empty = First(p); len(got) > 0 || !empty {
		t.Errorf("%v, %v of %d instructions", got, empty, len(p.List))
	}
}

// TestFirstOfOtherPrograms: of them nothing is promised but that there is an answer.
func TestFirstOfOtherPrograms(t *testing.T) {
	if got, empty := First(prog.Program{}); len(got) > 0 || empty {
		t.Errorf("of what Compile gives beside an error: %v, %v", got, empty)
	}
	for _, list := range [][]prog.Instr{
		{{Kind: prog.Jump}},
		{{Kind: prog.Jump, A: 1}},
		{{Kind: prog.Save, A: -1}},
		{{Kind: prog.Split}},
		{{Kind: prog.Split, A: math.MaxInt, B: math.MinInt}},
		{{Kind: prog.Byte, Range: span(math.MinInt, math.MaxInt)}},
		{{Kind: 7}}, {{Kind: -1}}, {{Kind: prog.Fail}}, {{Kind: prog.Match}},
	} {
		First(prog.Program{List: list, Groups: 1})
	}
}

func TestNothingIsChangedOrShared(t *testing.T) {
	root, p := made(t, "a*(?:[bc]|\u00E4|(?i:k))d")
	list := append(slices.Clone(p.List), prog.Instr{Kind: 77}, prog.Instr{Kind: 78})
	was, tree := slices.Clone(list), fmt.Sprint(root)
	p.List = list[:len(p.List)]
	first, _ := First(p)
	second, _ := First(p)
	want := slices.Clone(first)
	clear(second[:cap(second)])
	third, _ := First(p)
	if !slices.Equal(first, want) || !slices.Equal(third, want) {
		t.Errorf("memory is shared: %v, %v", first, third)
	}
	Literal(root)
	if fmt.Sprint(root) != tree || !slices.Equal(list, was) {
		t.Errorf("what was handed in is changed: %v, %v", root, list)
	}
	room := sets.Set{span('a', 'b'), span('x', 'z'), span(7, 7)}
	Next("__z", "", room[:2], false, 0)
	if !slices.Equal(room, sets.Set{span('a', 'b'), span('x', 'z'), span(7, 7)}) {
		t.Errorf("the set is changed: %v", room)
	}
}
