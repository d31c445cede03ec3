package show

import (
	"fmt"
	"strings"
	"testing"

	"ferret/api"
	"ferret/sets"
	"ferret/syntax"
)

// ranges of numbers, two a range.
func ranges(l ...int) sets.Set {
	var s []api.Range
	for i := 0; i < len(l); i += 2 {
		s = append(s, api.Range{From: l[i], To: l[i+1]})
	}
	return sets.Of(s...)
}

func of(s sets.Set) syntax.Node                { return syntax.Node{Kind: syntax.Class, Set: s} }
func lit(r int) syntax.Node                    { return of(ranges(r, r)) }
func folded(n syntax.Node) syntax.Node         { n.Fold = true; return n }
func kind(k int) syntax.Node                   { return syntax.Node{Kind: k} }
func cat(l ...syntax.Node) syntax.Node         { return syntax.Node{Kind: syntax.Cat, Kids: l} }
func alt(l ...syntax.Node) syntax.Node         { return syntax.Node{Kind: syntax.Alt, Kids: l} }
func lazy(n syntax.Node) syntax.Node           { n.Lazy = true; return n }
func name(s string, n syntax.Node) syntax.Node { n.Name = s; return n }

func group(c int, n syntax.Node) syntax.Node {
	return syntax.Node{Kind: syntax.Group, Cap: c, Kids: []syntax.Node{n}}
}

func repeat(least, most int, n syntax.Node) syntax.Node {
	return syntax.Node{Kind: syntax.Repeat, Min: least, Max: most, Kids: []syntax.Node{n}}
}

var empty = kind(syntax.Empty)

func TestClassOfOneNumber(t *testing.T) {
	for r, want := range map[int]string{
		'0': "0", '9': "9", 'A': "A", 'Z': "Z", 'a': "a", 'z': "z",
		0x21: `\!`, 0x7E: `\~`, '/': `\/`, ':': `\:`, '@': `\@`, '[': `\[`, '`': "\\`", '{': `\{`,
		'_': `\_`, '-': `\-`, '\\': `\\`, ']': `\]`, '^': `\^`, '.': `\.`,
		0: `\x{0}`, 9: `\x{9}`, '\n': `\x{A}`, 0x20: `\x{20}`, 0x7F: `\x{7F}`, 0x80: `\x{80}`, 0xE4: `\x{E4}`,
		0xABC: `\x{ABC}`, 0xD800: `\x{D800}`, 0xFEFF: `\x{FEFF}`, 0x10000: `\x{10000}`, api.MaxRune: `\x{10FFFF}`,
	} {
		if got := Class(ranges(r, r)); got != want {
			t.Errorf("of %x: %q, want %q", r, got, want)
		}
	}
}

// TestClassOfEveryByte: which of them stand as they are, which behind a sign, which as digits.
func TestClassOfEveryByte(t *testing.T) {
	const plain = "0123456789ABCDEFGHIJKLMNOPQRSTUVWXYZabcdefghijklmnopqrstuvwxyz"
	const signs = "!\"#$%&'()*+,-./:;<=>?@[\\]^_`{|}~"
	for r := range 256 {
		got := Class(ranges(r, r))
		want := fmt.Sprintf(`\x{%X}`, r)
		switch {
		case strings.Contains(plain, string(rune(r))):
			want = string(rune(r))
		case strings.Contains(signs, string(rune(r))):
			want = `\` + string(rune(r))
		}
		if got != want {
			t.Errorf("of %x: %q, want %q", r, got, want)
		}
	}
	if len(plain)+len(signs) != 0x7E-0x20 {
		t.Error("not all bytes are looked at")
	}
}

func TestClassOfManyNumbers(t *testing.T) {
	for _, c := range []struct {
		set  sets.Set
		want string
	}{
		{nil, `[^\x{0}-\x{10FFFF}]`},
		{sets.Set{}, `[^\x{0}-\x{10FFFF}]`},
		{ranges(0, api.MaxRune), `[\x{0}-\x{10FFFF}]`},
		{ranges('a', 'b'), `[\x{61}-\x{62}]`},
		{ranges('a', 'c'), `[\x{61}-\x{63}]`},
		{ranges('a', 'a', 'c', 'c'), `[\x{61}\x{63}]`},
		{ranges('.', '.', 'a', 'c'), `[\x{2E}\x{61}-\x{63}]`},
		{ranges('a', 'c', 'e', 'e'), `[\x{61}-\x{63}\x{65}]`},
		{ranges('\n', '\n').Not(), `[\x{0}-\x{9}\x{B}-\x{10FFFF}]`},
		{ranges(0, 0, 2, 2), `[\x{0}\x{2}]`},
		{ranges('-', '-', ']', ']', '^', '^'), `[\x{2D}\x{5D}-\x{5E}]`},
		{ranges(0xD800, 0xDFFF), `[\x{D800}-\x{DFFF}]`},
		{ranges(0, 0, api.MaxRune, api.MaxRune), `[\x{0}\x{10FFFF}]`},
	} {
		if got := Class(c.set); got != c.want {
			t.Errorf("of %v: %q, want %q", c.set, got, c.want)
		}
	}
}

type example struct {
	tree syntax.Node
	want string
}

func checkShown(t *testing.T, l []example) {
	t.Helper()
	for _, c := range l {
		if got := Show(c.tree); got != c.want {
			t.Errorf("%v: %q, want %q", c.tree, got, c.want)
		}
	}
}

func TestLeaves(t *testing.T) {
	checkShown(t, []example{
		{empty, "(?:)"},
		{syntax.Node{}, "(?:)"},
		{lit('a'), "a"},
		{lit('.'), `\.`},
		{lit(' '), `\x{20}`},
		{folded(lit('b')), "(?i:b)"},
		{folded(lit('*')), `(?i:\*)`},
		{folded(lit(0x212A)), `(?i:\x{212A})`},
		{of(nil), `[^\x{0}-\x{10FFFF}]`},
		{folded(of(nil)), `(?i:[^\x{0}-\x{10FFFF}])`},
		{of(ranges('a', 'z')), `[\x{61}-\x{7A}]`},
		{folded(of(ranges('a', 'z'))), `(?i:[\x{61}-\x{7A}])`},
		{kind(syntax.BeginText), `\A`},
		{kind(syntax.EndText), `\z`},
		{kind(syntax.BeginLine), "(?m:^)"},
		{kind(syntax.EndLine), "(?m:$)"},
		{kind(syntax.Word), `\b`},
		{kind(syntax.NotWord), `\B`},
	})
}

func TestRows(t *testing.T) {
	a, b, c := lit('a'), lit('b'), lit('c')
	checkShown(t, []example{
		{cat(a, b), "ab"},
		{cat(a, empty, b), "a(?:)b"},
		{cat(a, cat(b, c)), "a(?:bc)"},
		{cat(cat(a, b), c), "(?:ab)c"},
		{cat(a, alt(b, c)), "a(?:b|c)"},
		{cat(alt(a, b), c), "(?:a|b)c"},
		{cat(a, repeat(0, -1, b), c), "ab*c"},
		{cat(a, group(1, b), c), "a(b)c"},
		{cat(group(1, cat(a, b)), group(2, alt(b, c))), "(ab)(b|c)"},
		{cat(folded(a), kind(syntax.Word), b), `(?i:a)\bb`},
		{cat(kind(syntax.BeginLine), a, kind(syntax.EndLine)), "(?m:^)a(?m:$)"},
		{cat(a, lit('{'), lit('2'), lit('}')), `a\{2\}`},
		{cat(cat(cat(a, b), c), a), "(?:(?:ab)c)a"},
	})
}

func TestAlternatives(t *testing.T) {
	a, b, c := lit('a'), lit('b'), lit('c')
	checkShown(t, []example{
		{alt(a, b), "a|b"},
		{alt(a, b, c), "a|b|c"},
		{alt(empty, empty), "(?:)|(?:)"},
		{alt(a, empty), "a|(?:)"},
		{alt(empty, a), "(?:)|a"},
		{alt(a, cat(b, c)), "a|bc"},
		{alt(cat(a, b), c), "ab|c"},
		{alt(alt(a, b), c), "(?:a|b)|c"},
		{alt(a, alt(b, c)), "a|(?:b|c)"},
		{alt(repeat(1, -1, a), lazy(repeat(0, 1, b))), "a+|b??"},
		{alt(group(1, alt(a, b)), c), "(a|b)|c"},
		{alt(a, repeat(2, 2, folded(b))), "a|(?i:b){2}"},
	})
}

func TestRepeats(t *testing.T) {
	a, b := lit('a'), lit('b')
	checkShown(t, []example{
		{repeat(0, -1, a), "a*"},
		{repeat(1, -1, a), "a+"},
		{repeat(0, 1, a), "a?"},
		{repeat(0, 0, a), "a{0}"},
		{repeat(1, 1, a), "a{1}"},
		{repeat(64, 64, a), "a{64}"},
		{repeat(2, -1, a), "a{2,}"},
		{repeat(64, -1, a), "a{64,}"},
		{repeat(0, 2, a), "a{0,2}"},
		{repeat(1, 2, a), "a{1,2}"},
		{repeat(10, 64, a), "a{10,64}"},
		{lazy(repeat(0, -1, a)), "a*?"},
		{lazy(repeat(1, -1, a)), "a+?"},
		{lazy(repeat(0, 1, a)), "a??"},
		{lazy(repeat(3, 3, a)), "a{3}?"},
		{lazy(repeat(3, -1, a)), "a{3,}?"},
		{lazy(repeat(3, 4, a)), "a{3,4}?"},
		{repeat(0, -1, cat(a, b)), "(?:ab)*"},
		{repeat(0, -1, alt(a, b)), "(?:a|b)*"},
		{repeat(0, -1, repeat(0, 1, a)), "(?:a?)*"},
		{repeat(0, 1, lazy(repeat(0, -1, a))), "(?:a*?)?"},
		{repeat(0, -1, empty), "(?:)*"},
		{repeat(0, -1, folded(a)), "(?i:a)*"},
		{repeat(2, 3, group(1, cat(a, b))), "(ab){2,3}"},
		{repeat(0, -1, kind(syntax.BeginLine)), "(?m:^)*"},
		{repeat(0, 1, kind(syntax.Word)), `\b?`},
		{repeat(0, -1, lit('*')), `\**`},
		{repeat(0, -1, of(ranges('a', 'b'))), `[\x{61}-\x{62}]*`},
	})
}

func TestGroups(t *testing.T) {
	a, b := lit('a'), lit('b')
	checkShown(t, []example{
		{group(1, a), "(a)"},
		{group(7, a), "(a)"},
		{group(1, empty), "((?:))"},
		{group(1, cat(a, b)), "(ab)"},
		{group(1, alt(a, b)), "(a|b)"},
		{group(1, alt(a, empty)), "(a|(?:))"},
		{group(1, repeat(0, -1, a)), "(a*)"},
		{group(1, group(2, a)), "((a))"},
		{name("x", group(1, a)), "(?P<x>a)"},
		{name("a_9", group(1, alt(a, b))), "(?P<a_9>a|b)"},
		{name("x", group(1, name("y", group(2, empty)))), "(?P<x>(?P<y>(?:)))"},
	})
}

// TestTreesMadeByHand: a Kid that isn't there, some too many, and kinds that there aren't.
func TestTreesMadeByHand(t *testing.T) {
	a, b := lit('a'), lit('b')
	checkShown(t, []example{
		{syntax.Node{Kind: syntax.Repeat, Max: -1}, "(?:)*"},
		{lazy(syntax.Node{Kind: syntax.Repeat, Min: 2, Max: 2}), "(?:){2}?"},
		{syntax.Node{Kind: syntax.Group, Cap: 1}, "((?:))"},
		{name("x", kind(syntax.Group)), "(?P<x>(?:))"},
		{syntax.Node{Kind: syntax.Repeat, Max: 1, Kids: []syntax.Node{a, b}}, "a?"},
		{syntax.Node{Kind: syntax.Group, Kids: []syntax.Node{a, b}}, "(a)"},
		{cat(), ""},
		{alt(), ""},
		{cat(a), "a"},
		{alt(a), "a"},
		{kind(12), ""},
		{kind(-1), ""},
		{syntax.Node{Kind: 12, Set: ranges('a', 'a'), Kids: []syntax.Node{a}}, ""},
		{cat(a, kind(12), b), "ab"},
		{alt(a, kind(-5), b), "a||b"},
	})
}

func TestSize(t *testing.T) {
	a, b, c := lit('a'), lit('b'), lit('c')
	for _, e := range []struct {
		tree        syntax.Node
		nodes, deep int
	}{
		{empty, 1, 1},
		{a, 1, 1},
		{of(ranges('a', 'z', '0', '9')), 1, 1},
		{kind(syntax.Word), 1, 1},
		{cat(a, b), 3, 2},
		{cat(a, group(1, alt(b, c))), 6, 4},
		{cat(group(1, alt(b, c)), a), 6, 4},
		{alt(a, b, c, empty), 5, 2},
		{repeat(64, 64, a), 2, 2},
		{repeat(0, 0, repeat(0, -1, repeat(0, 1, a))), 4, 4},
		{cat(cat(a, b), cat(a, cat(b, c)), c), 10, 4},
		{alt(group(1, group(2, group(3, a))), repeat(0, -1, b)), 7, 5},
		{syntax.Node{Kind: syntax.Repeat, Max: -1}, 1, 1},
		{syntax.Node{Kind: syntax.Group, Cap: 1}, 1, 1},
		{kind(99), 1, 1},
	} {
		if n, d := Size(e.tree); n != e.nodes || d != e.deep {
			t.Errorf("%v: %d, %d, want %d, %d", e.tree, n, d, e.nodes, e.deep)
		}
	}
}

// TestDeepTree: as many parts in one another as the promises hold for.
func TestDeepTree(t *testing.T) {
	const deep = 1 << 16
	n := lit('a')
	for range deep - 1 {
		n = group(1, n)
	}
	if got, want := Show(n), strings.Repeat("(", deep-1)+"a"+strings.Repeat(")", deep-1); got != want {
		t.Error("a deep tree isn't shown as it should be")
	}
	if nodes, below := Size(n); nodes != deep || below != deep {
		t.Errorf("%d, %d, want %d", nodes, below, deep)
	}
}
