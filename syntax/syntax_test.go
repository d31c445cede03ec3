package syntax

import (
	"fmt"
	"slices"
	"strings"
	"testing"

	"ferret/api"
	"ferret/sets"
	"ferret/ucd"
)

// told: a node as a text that has all its fields, those that should be zero included.
func told(n Node) string {
	var b strings.Builder
	fmt.Fprintf(&b, "(%d", n.Kind)
	for _, r := range n.Set {
		fmt.Fprintf(&b, " %x-%x", r.From, r.To)
	}
	if n.Fold {
		b.WriteString(" fold")
	}
	if n.Min != 0 || n.Max != 0 {
		fmt.Fprintf(&b, " %d..%d", n.Min, n.Max)
	}
	if n.Lazy {
		b.WriteString(" lazy")
	}
	if n.Cap != 0 || n.Name != "" {
		fmt.Fprintf(&b, " #%d%q", n.Cap, n.Name)
	}
	for _, kid := range n.Kids {
		b.WriteString(" " + told(kid))
	}
	return b.String() + ")"
}

// ranges of numbers, two a range.
func ranges(l ...int) sets.Set {
	var s []api.Range
	for i := 0; i < len(l); i += 2 {
		s = append(s, api.Range{From: l[i], To: l[i+1]})
	}
	return sets.Of(s...)
}

func perl(c byte) sets.Set {
	s, _ := ucd.Perl(c)
	return s
}

func named(name string) sets.Set {
	s, _ := ucd.Class(name)
	return s
}

func of(s sets.Set) Node       { return Node{Kind: Class, Set: s} }
func folded(n Node) Node       { n.Fold = true; return n }
func lit(r int) Node           { return of(ranges(r, r)) }
func kind(k int) Node          { return Node{Kind: k} }
func cat(l ...Node) Node       { return Node{Kind: Cat, Kids: l} }
func alt(l ...Node) Node       { return Node{Kind: Alt, Kids: l} }
func lazy(n Node) Node         { n.Lazy = true; return n }
func group(c int, n Node) Node { return Node{Kind: Group, Cap: c, Kids: []Node{n}} }

func repeat(least, most int, n Node) Node {
	return Node{Kind: Repeat, Min: least, Max: most, Kids: []Node{n}}
}

func name(s string, n Node) Node { n.Name = s; return n }

// row of single scalars.
func row(s string) Node {
	var l []Node
	for _, r := range s {
		l = append(l, lit(int(r)))
	}
	return cat(l...)
}

var empty = kind(Empty)

type example struct {
	text string
	want Node
}

func checkTrees(t *testing.T, f Flags, l []example) {
	t.Helper()
	for _, c := range l {
		p, fault := Parse(c.text, f)
		if got, want := told(p.Root), told(c.want); fault != (api.Fault{}) || got != want {
			t.Errorf("%q, %v: %s, %v; want %s", c.text, f, got, fault, want)
		}
	}
}

func TestKindsHaveTheirNumbers(t *testing.T) {
	got := [...]int{Empty, Class, BeginText, EndText, BeginLine, EndLine, Word, NotWord, Cat, Alt, Repeat, Group}
	for i, k := range got {
		if i != k {
			t.Errorf("kind %d is %d", i, k)
		}
	}
}

func TestRowsAndAlternatives(t *testing.T) {
	checkTrees(t, Flags{}, []example{
		{"", empty},
		{"a", lit('a')},
		{"ab", row("ab")},
		{"a(b|)*?", cat(lit('a'), lazy(repeat(0, -1, group(1, alt(lit('b'), empty)))))},
		{"|", alt(empty, empty)},
		{"a|", alt(lit('a'), empty)},
		{"|a", alt(empty, lit('a'))},
		{"a||b", alt(lit('a'), empty, lit('b'))},
		{"a|b|cd", alt(lit('a'), lit('b'), row("cd"))},
		{"(?:a|b)|c", alt(alt(lit('a'), lit('b')), lit('c'))},
		{"(?:ab)c", cat(row("ab"), lit('c'))},
		{"(?:a)", lit('a')},
		{"(?:)", empty},
		{"a(?:)b", cat(lit('a'), empty, lit('b'))},
		{"(?:)|(?:)", alt(empty, empty)},
		{"(?:(?:(?:a)))", lit('a')},
		{"\u00E4\u20AC\U0001F600", cat(lit(0xE4), lit(0x20AC), lit(0x1F600))},
		{"\x00\n\x7F", cat(lit(0), lit(0x0A), lit(0x7F))},
		{"]}{", row("]}{")},
		{"-:,<>=!&#~%@;'\"/ `_", row("-:,<>=!&#~%@;'\"/ `_")},
		{"\uFEFFa", lit('a')},
		{"\uFEFF", empty},
		{"\uFEFF\uFEFF", lit(0xFEFF)},
		{"a\uFEFF", cat(lit('a'), lit(0xFEFF))},
	})
}

func TestQuantifiers(t *testing.T) {
	a := lit('a')
	checkTrees(t, Flags{}, []example{
		{"a*", repeat(0, -1, a)},
		{"a+", repeat(1, -1, a)},
		{"a?", repeat(0, 1, a)},
		{"a*?", lazy(repeat(0, -1, a))},
		{"a+?", lazy(repeat(1, -1, a))},
		{"a??", lazy(repeat(0, 1, a))},
		{"a{3}", repeat(3, 3, a)},
		{"a{3}?", lazy(repeat(3, 3, a))},
		{"a{3,}", repeat(3, -1, a)},
		{"a{3,}?", lazy(repeat(3, -1, a))},
		{"a{2,5}", repeat(2, 5, a)},
		{"a{2,5}?", lazy(repeat(2, 5, a))},
		{"a{0}", repeat(0, 0, a)},
		{"a{0,0}", repeat(0, 0, a)},
		{"a{0,}", repeat(0, -1, a)},
		{"a{64}", repeat(64, 64, a)},
		{"a{64,64}", repeat(64, 64, a)},
		{"a{64,}", repeat(64, -1, a)},
		{"a{0064,0064}", repeat(64, 64, a)},
		{"ab*", cat(a, repeat(0, -1, lit('b')))},
		{"a*b+", cat(repeat(0, -1, a), repeat(1, -1, lit('b')))},
		{"(?:ab)*", repeat(0, -1, row("ab"))},
		{"(?:a*)*", repeat(0, -1, repeat(0, -1, a))},
		{"(?:)*", repeat(0, -1, empty)},
		{"(?:(?i))*", repeat(0, -1, empty)},
		{"()?", repeat(0, 1, group(1, empty))},
		{"^*", repeat(0, -1, kind(BeginText))},
		{"\\b{2}", repeat(2, 2, kind(Word))},
		{"[a]*", repeat(0, -1, a)},
		{"\\n+", repeat(1, -1, lit('\n'))},
		{"(?i)\u00E4*", repeat(0, -1, folded(lit(0xE4)))},
	})
}

func TestBracesThatBeginNoQuantifier(t *testing.T) {
	for _, s := range []string{"a{", "a{}", "a{,}", "a{,2}", "a{2", "a{2,", "a{2,3", "a{x}", "a{2x}", "a{2,x}", "a{ 2}", "a{2 }", "a{2, 3}", "a{-1}", "a{00001}", "a{12345}", "a{1,00001}", "a{99999,}", "a{2,3,4}", "a{2,3;", "{", "{}", "{,1}", "{x", "}{", "a}", "{12345}", "a{\u0662}", "a{2\uFF0C3}"} {
		checkTrees(t, Flags{}, []example{{s, together(Cat, row(s).Kids)}})
	}
	checkTrees(t, Flags{}, []example{
		{"{{2}", repeat(2, 2, lit('{'))},
		{"{*", repeat(0, -1, lit('{'))},
		{"a{,2}*", cat(lit('a'), lit('{'), lit(','), lit('2'), repeat(0, -1, lit('}')))},
		{"a*{,2}", cat(append([]Node{repeat(0, -1, lit('a'))}, row("{,2}").Kids...)...)},
		{"a(?i){", cat(lit('a'), folded(lit('{')))},
	})
}

func TestGroups(t *testing.T) {
	a, b := lit('a'), lit('b')
	most := strings.Repeat("aZ09_zA_", 4)
	for _, c := range []struct {
		example
		names []string
	}{
		{example{"", empty}, []string{""}},
		{example{"(?:a)", a}, []string{""}},
		{example{"()", group(1, empty)}, []string{"", ""}},
		{example{"(a)", group(1, a)}, []string{"", ""}},
		{example{"(|)", group(1, alt(empty, empty))}, []string{"", ""}},
		{example{"((a)|(b))", group(1, alt(group(2, a), group(3, b)))}, []string{"", "", "", ""}},
		{example{"(a)(?:(b))", cat(group(1, a), group(2, b))}, []string{"", "", ""}},
		{example{"(?P<x>a)", name("x", group(1, a))}, []string{"", "x"}},
		{example{"(?P<x>(a)(?P<y>b))", name("x", group(1, cat(group(2, a), name("y", group(3, b)))))}, []string{"", "x", "", "y"}},
		{example{"(?P<x>a)(?P<X>b)", cat(name("x", group(1, a)), name("X", group(2, b)))}, []string{"", "x", "X"}},
		{example{"(?P<" + most + ">)", name(most, group(1, empty))}, []string{"", most}},
		{example{"(?P<0>a)", name("0", group(1, a))}, []string{"", "0"}},
		{example{"(?P<_>a)", name("_", group(1, a))}, []string{"", "_"}},
		{example{"\uFEFF(?P<n>\u00E4)", name("n", group(1, lit(0xE4)))}, []string{"", "n"}},
	} {
		checkTrees(t, Flags{}, []example{c.example})
		if p, _ := Parse(c.text, Flags{}); !slices.Equal(p.Names, c.names) {
			t.Errorf("%q: the names %q, want %q", c.text, p.Names, c.names)
		}
	}
}

func TestBorders(t *testing.T) {
	begin, end, word := kind(BeginText), kind(EndText), kind(Word)
	lines, ends := kind(BeginLine), kind(EndLine)
	all := []example{{"\\A", begin}, {"\\z", end}, {"\\b", word}, {"\\B", kind(NotWord)}}
	checkTrees(t, Flags{}, append(all, example{"^", begin}, example{"$", end}, example{"(?m)^$", cat(lines, ends)}, example{"(?m:^)$", cat(lines, end)}))
	checkTrees(t, Flags{Lines: true}, append(all, example{"^", lines}, example{"$", ends}, example{"(?-m)^$", cat(begin, end)}))
	checkTrees(t, Flags{Fold: true, Dot: true, Lazy: true}, append(all, example{"^", begin}, example{"$", end}))
}

func TestDot(t *testing.T) {
	most, all := of(ranges(0, 9, 11, api.MaxRune)), of(ranges(0, api.MaxRune))
	checkTrees(t, Flags{}, []example{{".", most}, {"(?s).", all}, {"(?s:.).", cat(all, most)}, {"(?i).", folded(most)}, {"[.]", lit('.')}})
	checkTrees(t, Flags{Dot: true}, []example{{".", all}, {"(?-s).", most}, {"(?i-s).", folded(most)}})
}

func TestEscapes(t *testing.T) {
	checkTrees(t, Flags{}, []example{
		{"\\n\\t\\r\\f\\v", cat(lit(0x0A), lit(0x09), lit(0x0D), lit(0x0C), lit(0x0B))},
		{"\\x41", lit(0x41)},
		{"\\x00", lit(0)},
		{"\\xfF", lit(0xFF)},
		{"\\x414", cat(lit(0x41), lit('4'))},
		{"\\x{4}", lit(4)},
		{"\\x{aBc}", lit(0xABC)},
		{"\\x{000041}", lit(0x41)},
		{"\\x{10FFFF}", lit(0x10FFFF)},
		{"\\x{10ffff}", lit(0x10FFFF)},
		{"\\x{D800}", lit(0xD800)},
		{"\\x{41}{2}", repeat(2, 2, lit(0x41))},
		{"\\p{L}x", cat(of(named("L")), lit('x'))},
	})
	for _, c := range []byte("dDsSwW") {
		checkTrees(t, Flags{}, []example{{"\\" + string(c), of(perl(c))}, {"(?i)\\" + string(c), folded(of(perl(c)))}})
	}
	for _, s := range ucd.Names() {
		checkTrees(t, Flags{}, []example{{"\\p{" + s + "}", of(named(s))}, {"\\P{" + s + "}", of(named(s).Not())}})
	}
	signs := "!\"#$%&'()*+,-./:;<=>?@[\\]^_`{|}~"
	for _, r := range signs {
		checkTrees(t, Flags{}, []example{{"\\" + string(r), lit(int(r))}, {"[\\" + string(r) + "]", lit(int(r))}})
	}
	if len(signs) != 0x7E-0x20-62 {
		t.Error("not all signs are looked at")
	}
}

func TestClasses(t *testing.T) {
	d := perl('d')
	checkTrees(t, Flags{}, []example{
		{"[a]", lit('a')},
		{"[ab]", of(ranges('a', 'b'))},
		{"[a-c]", of(ranges('a', 'c'))},
		{"[a-a]", lit('a')},
		{"[xa-cb]", of(ranges('a', 'c', 'x', 'x'))},
		{"[^a]", of(ranges('a', 'a').Not())},
		{"[^a-c\\n]", of(ranges('a', 'c', 10, 10).Not())},
		{"[]]", lit(']')},
		{"[^]]", of(ranges(']', ']').Not())},
		{"[]a]", of(ranges(']', ']', 'a', 'a'))},
		{"[]-a]", of(ranges(']', 'a'))},
		{"[a]]", row("a]")},
		{"[a-]]", cat(of(ranges('a', 'a', '-', '-')), lit(']'))},
		{"[-]", lit('-')},
		{"[^-]", of(ranges('-', '-').Not())},
		{"[-a]", of(ranges('-', '-', 'a', 'a'))},
		{"[^-a]", of(ranges('-', '-', 'a', 'a').Not())},
		{"[a-]", of(ranges('-', '-', 'a', 'a'))},
		{"[]-]", of(ranges('-', '-', ']', ']'))},
		{"[--]", lit('-')},
		{"[---]", lit('-')},
		{"[--a]", of(ranges('-', 'a'))},
		{"[+--]", of(ranges('+', '-'))},
		{"[a-c-e]", of(ranges('a', 'c', '-', '-', 'e', 'e'))},
		{"[a-c-]", of(ranges('a', 'c', '-', '-'))},
		{"[a-c--]", of(ranges('a', 'c', '-', '-'))},
		{"[a-c--e]", of(ranges('-', 'e'))},
		{"[\\d-f]", of(d.Or(ranges('-', '-', 'f', 'f')))},
		{"[\\d-]", of(d.Or(ranges('-', '-')))},
		{"[\\d-\\w]", of(perl('w').Or(ranges('-', '-')))},
		{"[a-c-\\d]", of(d.Or(ranges('a', 'c', '-', '-')))},
		{"[\\p{Greek}-f]", of(named("Greek").Or(ranges('-', '-', 'f', 'f')))},
		{"[^\\d-f]", of(d.Or(ranges('-', '-', 'f', 'f')).Not())},
		{"[\\d\\D]", of(ranges(0, api.MaxRune))},
		{"[^\\d\\D]", of(nil)},
		{"[\\P{Any}]", of(nil)},
		{"[^\\x{0}-\\x{10FFFF}]", of(nil)},
		{"[\\p{Lu}\\P{L}]", of(named("Lu").Or(named("L").Not()))},
		{"[\\S]", of(perl('S'))},
		{"[a^]", of(ranges('a', 'a', '^', '^'))},
		{"[^^]", of(ranges('^', '^').Not())},
		{"[\\^a]", of(ranges('a', 'a', '^', '^'))},
		{"[\\]-a]", of(ranges(']', 'a'))},
		{"[\\-a]", of(ranges('-', '-', 'a', 'a'))},
		{"[\\--a]", of(ranges('-', 'a'))},
		{"[+-\\-]", of(ranges('+', '-'))},
		{"[\\t-\\r]", of(ranges(9, 13))},
		{"[\\x41-\\x{43}]", of(ranges(0x41, 0x43))},
		{"[\\x{D800}-\\x{DFFF}]", of(ranges(0xD800, 0xDFFF))},
		{"[\u00E4-\u00F6\U0001F600]", of(ranges(0xE4, 0xF6, 0x1F600, 0x1F600))},
		{"[[]", lit('[')},
		{"[[:a:]]", cat(of(ranges('[', '[', ':', ':', 'a', 'a')), lit(']'))},
		{"[(|)*+?{}.$]", of(ranges('(', '+', '|', '|', '?', '?', '{', '{', '}', '}', '.', '.', '$', '$'))},
		{"[\n]", lit('\n')},
		{"[ba-]c-d", cat(of(ranges('a', 'b', '-', '-')), lit('c'), lit('-'), lit('d'))},
	})
}

func TestFlags(t *testing.T) {
	a, b, c := lit('a'), lit('b'), lit('c')
	A, B, C := folded(a), folded(b), folded(c)
	newline, most := of(ranges(0, api.MaxRune)), of(ranges(0, 9, 11, api.MaxRune))
	checkTrees(t, Flags{}, []example{
		{"(?i)a", A},
		{"(?i)", empty},
		{"a(?i)", a},
		{"a(?i)b", cat(a, B)},
		{"a|(?i)b|c", alt(a, B, C)},
		{"(?i)|a", alt(empty, A)},
		{"(a(?i)b)c", cat(group(1, cat(a, B)), c)},
		{"(?:a(?i)b)c", cat(cat(a, B), c)},
		{"(?P<x>a(?i)b|c)c", cat(name("x", group(1, alt(cat(a, B), C))), c)},
		{"(?i:a)b", cat(A, b)},
		{"(?i:)", empty},
		{"(?i:a|b)c", cat(alt(A, B), c)},
		{"(?i:(?-i:a)b)c", cat(cat(a, B), c)},
		{"(?i:a(?-i)b)c", cat(cat(A, b), c)},
		{"(?i)(?-i)a", a},
		{"(?i)((?-i)a)b", cat(group(1, a), B)},
		{"(?i)[^a]", folded(of(ranges('a', 'a').Not()))},
		{"(?i)^", kind(BeginText)},
		{"(?U)a*", lazy(repeat(0, -1, a))},
		{"(?U)a*?", repeat(0, -1, a)},
		{"(?U)a{2}b{2,}?", cat(lazy(repeat(2, 2, a)), repeat(2, -1, b))},
		{"(?U:a)*", repeat(0, -1, a)},
		{"(?U:a*)*", repeat(0, -1, lazy(repeat(0, -1, a)))},
		{"((?U)a*)*", repeat(0, -1, group(1, lazy(repeat(0, -1, a))))},
		{"(?imsU)a*.^$", cat(lazy(repeat(0, -1, A)), folded(newline), kind(BeginLine), kind(EndLine))},
		{"(?Usmi)a*", lazy(repeat(0, -1, A))},
		{"(?imsU)(?-imsU)a*.^$", cat(repeat(0, -1, a), most, kind(BeginText), kind(EndText))},
		{"(?s-i).a", cat(newline, a)},
		{"(?i-s).a", cat(folded(most), A)},
		{"(?i-i)a", a},
		{"(?i-)a", A},
		{"(?i-:a)b", cat(A, b)},
		{"(?-i)a", a},
		{"(?-imsU:a)", a},
		{"(?i)(?m)a^", cat(A, kind(BeginLine))},
	})
	checkTrees(t, Flags{Fold: true}, []example{{"a[b]\\d", cat(A, B, folded(of(perl('d'))))}, {"(?-i)a", a}, {"(?-i:a)b", cat(a, B)}, {"a|b", alt(A, B)}, {"a*", repeat(0, -1, A)}})
	checkTrees(t, Flags{Lazy: true}, []example{{"a*", lazy(repeat(0, -1, a))}, {"a??", repeat(0, 1, a)}, {"(?-U)a*", repeat(0, -1, a)}, {"(?-U:a*)b*?", cat(repeat(0, -1, a), repeat(0, -1, b))}})
}

func TestEveryListIsItsOwn(t *testing.T) {
	for _, text := range []string{"aa", "..", "\\d\\d", "(a)(a)|a*a*", "[a-c][a-c]", "\\p{L}\\p{L}"} {
		p, _ := Parse(text, Flags{})
		was := told(p.Root)
		again, _ := Parse(text, Flags{})
		spoil(p.Root)
		clear(p.Names)
		if got := told(again.Root); got != was {
			t.Errorf("%q: %s, now %s", text, was, got)
		}
	}
	p, _ := Parse("\\d\\d", Flags{})
	clear(p.Root.Kids[0].Set)
	if !p.Root.Kids[1].Set.Same(perl('d')) {
		t.Error("two sets share their memory")
	}
}

func spoil(n Node) {
	clear(n.Set)
	for _, kid := range n.Kids {
		spoil(kid)
	}
	clear(n.Kids)
}
