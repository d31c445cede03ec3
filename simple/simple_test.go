package simple

import (
	"fmt"
	"math"
	"strings"
	"testing"

	"ferret/api"
	"ferret/sets"
	"ferret/syntax"
	"ferret/ucd"
)

// wrapped: a node as a text that has all its fields, those that should be zero included, and its Kids as told.
func wrapped(n syntax.Node, kids ...string) string {
	var set strings.Builder
	for _, r := range n.Set {
		fmt.Fprintf(&set, " %x-%x", r.From, r.To)
	}
	return fmt.Sprintf("(%d[%s] %v %d..%d %v #%d%q %s)", n.Kind, set.String(), n.Fold, n.Min, n.Max, n.Lazy, n.Cap, n.Name, strings.Join(kids, ""))
}

func told(n syntax.Node) string {
	var kids []string
	for _, kid := range n.Kids {
		kids = append(kids, told(kid))
	}
	return wrapped(n, kids...)
}

// ranges of numbers, two a range.
func ranges(l ...int) sets.Set {
	var s []api.Range
	for i := 0; i < len(l); i += 2 {
		s = append(s, api.Range{From: l[i], To: l[i+1]})
	}
	return sets.Of(s...)
}

func of(s sets.Set) syntax.Node                { return syntax.Node{Kind: syntax.Class, Set: s} }
func lit(r int) syntax.Node                    { return of(ranges(r, r)) }
func folded(n syntax.Node) syntax.Node         { n.Fold = true; return n }
func kind(k int) syntax.Node                   { return syntax.Node{Kind: k} }
func cat(l ...syntax.Node) syntax.Node         { return syntax.Node{Kind: syntax.Cat, Kids: l} }
func alt(l ...syntax.Node) syntax.Node         { return syntax.Node{Kind: syntax.Alt, Kids: l} }
func lazy(n syntax.Node) syntax.Node           { n.Lazy = true; return n }
func name(s string, n syntax.Node) syntax.Node { n.Name = s; return n }

func group(c int, n syntax.Node) syntax.Node {
	return syntax.Node{Kind: syntax.Group, Cap: c, Kids: []syntax.Node{n}}
}

func repeat(least, most int, n syntax.Node) syntax.Node {
	return syntax.Node{Kind: syntax.Repeat, Min: least, Max: most, Kids: []syntax.Node{n}}
}

func again(n syntax.Node) syntax.Node   { return repeat(0, -1, n) }
func perhaps(n syntax.Node) syntax.Node { return repeat(0, 1, n) }

// letters in a row.
func letters(s string) syntax.Node {
	var l []syntax.Node
	for _, r := range s {
		l = append(l, lit(int(r)))
	}
	return cat(l...)
}

func parsed(t *testing.T, text string) syntax.Node {
	t.Helper()
	p, fault := syntax.Parse(text, syntax.Flags{})
	if fault != (api.Fault{}) {
		t.Fatalf("%q: %v", text, fault)
	}
	return p.Root
}

func checkTree(t *testing.T, n, want syntax.Node) {
	t.Helper()
	was := told(n)
	got, err := Simplify(n)
	if err != api.OK || told(got) != told(want) {
		t.Errorf("%s: %s, %v; want %s", was, told(got), err, told(want))
	}
	if told(n) != was {
		t.Errorf("%s was changed: %s", was, told(n))
	}
}

type example struct {
	text string
	want syntax.Node
}

func checkTexts(t *testing.T, l []example) {
	t.Helper()
	for _, c := range l {
		checkTree(t, parsed(t, c.text), c.want)
	}
}

var empty = kind(syntax.Empty)

func TestLeavesStay(t *testing.T) {
	for _, k := range []int{syntax.Empty, syntax.BeginText, syntax.EndText, syntax.BeginLine, syntax.EndLine, syntax.Word, syntax.NotWord} {
		checkTree(t, kind(k), kind(k))
	}
	for _, s := range []sets.Set{nil, ranges('a', 'a'), ranges('a', 'z', '0', '9'), ranges(0, 0xD7FF, 0xE000, api.MaxRune)} {
		checkTree(t, of(s), of(s))
	}
}

func TestFoldIsClosed(t *testing.T) {
	checkTexts(t, []example{
		{"(?i)a", of(ranges('A', 'A', 'a', 'a'))},
		{"(?i)k", of(ranges('K', 'K', 'k', 'k', 0x212A, 0x212A))},
		{"(?i)\\x{212A}", of(ranges('K', 'K', 'k', 'k', 0x212A, 0x212A))},
		{"(?i)\u03C2", of(ranges(0x3A3, 0x3A3, 0x3C2, 0x3C3))},
		{"(?i)[r-t]", of(ranges('R', 'T', 'r', 't', 0x17F, 0x17F))},
		{"(?i)0", lit('0')},
		{"(?i)[^a]", of(ranges(0, 0xD7FF, 0xE000, api.MaxRune))},
		{"[^a]", of(ranges('a', 'a', 0xD800, 0xDFFF).Not())},
		{"(?i:a)a", cat(of(ranges('A', 'A', 'a', 'a')), lit('a'))},
		{"(?i)[^\\d\\D]", of(nil)},
		{"(?i)(a|b*)", group(1, alt(of(ranges('A', 'A', 'a', 'a')), again(of(ranges('B', 'B', 'b', 'b')))))},
	})
	for _, s := range ucd.Names() {
		set, _ := ucd.Class(s)
		checkTree(t, folded(of(set)), of(ucd.Close(set).Less(ranges(0xD800, 0xDFFF))))
	}
}

func TestNumbersThatAreNoScalarsAreTakenOut(t *testing.T) {
	checkTexts(t, []example{
		{"\\x{D800}", of(nil)},
		{"\\x{DFFF}", of(nil)},
		{"(?i)\\x{DC00}", of(nil)},
		{"\\x{D7FF}\\x{E000}", cat(lit(0xD7FF), lit(0xE000))},
		{"[\\x{D7FF}-\\x{D800}]", lit(0xD7FF)},
		{"[\\x{DFFF}-\\x{E000}]", lit(0xE000)},
		{"[\\x{D800}-\\x{DFFF}]", of(nil)},
		{"[\\x{DA00}-\\x{DB00}a]", lit('a')},
		{"(?s).", of(ranges(0, 0xD7FF, 0xE000, api.MaxRune))},
		{".", of(ranges(0, 9, 11, 0xD7FF, 0xE000, api.MaxRune))},
		{"(?i).", of(ranges(0, 9, 11, 0xD7FF, 0xE000, api.MaxRune))},
	})
}

func TestRowsAreLaidFlat(t *testing.T) {
	a := lit('a')
	checkTexts(t, []example{
		{"ab", letters("ab")},
		{"(?:a(?:bc))d", letters("abcd")},
		{"(?:ab)(?:cd)", letters("abcd")},
		{"(?:(?:(?:ab)c)d)(?:e(?:f(?:gh)))", letters("abcdefgh")},
		{"a(?:)b", letters("ab")},
		{"a(?:)", a},
		{"(?:)a", a},
		{"(?:)(?:)", empty},
		{"(?:)", empty},
		{"a(?:b{0}(?:))", a},
		{"a(?:b|c)d", cat(a, alt(lit('b'), lit('c')), lit('d'))},
		{"a(bc)d", cat(a, group(1, letters("bc")), lit('d'))},
		{"(?:ab|c)d", cat(alt(letters("ab"), lit('c')), lit('d'))},
		{"^(?:a$)", cat(kind(syntax.BeginText), a, kind(syntax.EndText))},
	})
	checkTree(t, cat(), empty)
	checkTree(t, cat(a), a)
	checkTree(t, cat(cat(cat(a))), a)
	checkTree(t, cat(cat(), cat(empty)), empty)
}

func TestAlternativesAreLaidFlat(t *testing.T) {
	a, b, c := lit('a'), lit('b'), lit('c')
	checkTexts(t, []example{
		{"a|b", alt(a, b)},
		{"a|(?:b|c)", alt(a, b, c)},
		{"(?:a|b)|c", alt(a, b, c)},
		{"(?:a|(?:b|(?:c|a)))|b", alt(a, b, c, a, b)},
		{"|", alt(empty, empty)},
		{"a|(?:)", alt(a, empty)},
		{"(?:|)|(?:|a)", alt(empty, empty, empty, a)},
		{"a|b{0}", alt(a, empty)},
		{"(a|b)|c", alt(group(1, alt(a, b)), c)},
		{"ab|(?:c|ab)", alt(letters("ab"), c, letters("ab"))},
		{"(?:a|b){1}|c", alt(a, b, c)},
	})
	checkTree(t, alt(a), a)
	checkTree(t, alt(alt(a)), a)
	checkTree(t, alt(empty), empty)
	checkTree(t, alt(cat(a, b)), letters("ab"))
}

func TestRepeatsAreWrittenOut(t *testing.T) {
	a, b := lit('a'), lit('b')
	ab := letters("ab")
	checkTexts(t, []example{
		{"a*", again(a)},
		{"a?", perhaps(a)},
		{"a+", cat(a, again(a))},
		{"a{0}", empty},
		{"a{0,0}", empty},
		{"a{1}", a},
		{"a{2}", letters("aa")},
		{"a{1,1}", a},
		{"a{0,}", again(a)},
		{"a{2,}", cat(a, a, again(a))},
		{"a{0,1}", perhaps(a)},
		{"a{0,2}", perhaps(cat(a, perhaps(a)))},
		{"a{0,3}", perhaps(cat(a, perhaps(cat(a, perhaps(a)))))},
		{"a{1,2}", cat(a, perhaps(a))},
		{"a{2,3}", cat(a, a, perhaps(a))},
		{"a{2,4}", cat(a, a, perhaps(cat(a, perhaps(a))))},
		{"a*?", lazy(again(a))},
		{"a??", lazy(perhaps(a))},
		{"a+?", cat(a, lazy(again(a)))},
		{"a{2}?", letters("aa")},
		{"a{0}?", empty},
		{"a{1,3}?", cat(a, lazy(perhaps(cat(a, lazy(perhaps(a))))))},
		{"(?:ab){2}", letters("abab")},
		{"(?:ab){1,3}", cat(a, b, perhaps(cat(a, b, perhaps(ab))))},
		{"(?:ab){1,}", cat(a, b, again(ab))},
		{"(?:ab)*", again(ab)},
		{"(?:a|b){2}", cat(alt(a, b), alt(a, b))},
		{"(?:a|b){1,2}", cat(alt(a, b), perhaps(alt(a, b)))},
		{"(a){2}", cat(group(1, a), group(1, a))},
		{"(?P<x>ab){1,2}", cat(name("x", group(1, ab)), perhaps(name("x", group(1, ab))))},
		{"c(?:ab){2}d", letters("cababd")},
		{"(?:a*)*", again(again(a))},
		{"(?:a{2}){2}", letters("aaaa")},
		{"(?:a?){0,2}", perhaps(cat(perhaps(a), perhaps(perhaps(a))))},
		{"(?:a+?){2}", cat(a, lazy(again(a)), a, lazy(again(a)))},
		{"(?i)a{1,2}", cat(of(ranges('A', 'A', 'a', 'a')), perhaps(of(ranges('A', 'A', 'a', 'a'))))},
		{"\\b{2}", cat(kind(syntax.Word), kind(syntax.Word))},
	})
}

func TestRepeatsOfNothing(t *testing.T) {
	checkTexts(t, []example{
		{"(?:)*", again(empty)},
		{"(?:)?", perhaps(empty)},
		{"(?:){3}", empty},
		{"(?:)+", again(empty)},
		{"(?:){2,}", again(empty)},
		{"(?:){0,2}", perhaps(perhaps(empty))},
		{"(?:){3,5}?", lazy(perhaps(lazy(perhaps(empty))))},
		{"a(?:b{0}){2,3}", cat(lit('a'), perhaps(empty))},
	})
}

func TestGroupsStay(t *testing.T) {
	a := lit('a')
	checkTexts(t, []example{
		{"()", group(1, empty)},
		{"(a)", group(1, a)},
		{"(?P<x>(?:a(?:bc)))", name("x", group(1, letters("abc")))},
		{"((a){2})", group(1, cat(group(2, a), group(2, a)))},
		{"(a|(?:b|c))", group(1, alt(a, lit('b'), lit('c')))},
		{"(a){0}(b)", group(2, lit('b'))},
		{"(()|())", group(1, alt(group(2, empty), group(3, empty)))},
	})
}

// TestAllTimes: each row of so many to so many, by its words.
func TestAllTimes(t *testing.T) {
	for _, x := range []syntax.Node{lit('a'), letters("ab"), alt(lit('a'), empty), group(1, lit('a')), empty} {
		for least := range api.MaxRepeat + 1 {
			for _, most := range []int{-1, least, least + 1, least + 2, api.MaxRepeat} {
				n := lazy(repeat(least, most, x))
				got, err := Simplify(n)
				if want := modelOf(n).whole; most <= api.MaxRepeat && (err != api.OK || told(got) != want) {
					t.Errorf("%d to %d of %s: %s, %v; want %s", least, most, told(x), told(got), err, want)
				}
			}
		}
	}
}

func checkCount(t *testing.T, n syntax.Node, want int) {
	t.Helper()
	if got := Count(n); got != want {
		t.Errorf("%.200s: %d, want %d", told(n), got, want)
	}
}

func TestCount(t *testing.T) {
	for k := range syntax.Cat {
		checkCount(t, kind(k), 1)
	}
	for text, want := range map[string]int{
		"":                     1,
		"a":                    1,
		"[a-z0-9]":             1,
		"(?i)k":                1,
		"ab":                   3,
		"abc":                  4,
		"a|b":                  3,
		"a|":                   3,
		"a(?:)b":               4,
		"(?:ab)c":              5,
		"(?:a|b)|c":            5,
		"(a)":                  2,
		"()":                   2,
		"((a))":                3,
		"(ab)":                 4,
		"a*":                   3,
		"a*?":                  3,
		"a+":                   4,
		"a?":                   4,
		"a??":                  4,
		"a{0}":                 1,
		"a{1}":                 2,
		"a{2}":                 3,
		"a{64}":                65,
		"a{2,}":                5,
		"a{64,}":               67,
		"a{2,3}":               6,
		"a{0,64}":              193,
		"a{3,5}?":              10,
		"(?:ab){2,4}":          17,
		"(ab){2,}":             14,
		"(?:ab){0}":            1,
		"(?:a{64}){0}b":        3,
		"(?:a{0}){3}":          4,
		"(?:a*)*":              5,
		"(a{64}){64}":          4225,
		"((a{64}){64}){64}":    270465,
		"((a{64}){64}){64}{,}": 270469,
	} {
		checkCount(t, parsed(t, text), want)
	}
}

func TestCountIsBounded(t *testing.T) {
	const most = 1 << 20
	nothing := make([]syntax.Node, 2*most)
	flat := func(n int) syntax.Node { return cat(nothing[:n]...) }
	checkCount(t, flat(most-2), most-1)
	checkCount(t, flat(most-1), most)
	checkCount(t, flat(most), most+1)
	checkCount(t, flat(most+1), most+1)
	checkCount(t, flat(2*most), most+1)
	checkCount(t, group(1, flat(most-2)), most)
	checkCount(t, group(1, flat(most-1)), most+1)
	checkCount(t, group(1, flat(most)), most+1)
	checkCount(t, cat(flat(most), flat(most), flat(most)), most+1)
	checkCount(t, alt(flat(most), empty), most+1)
	checkCount(t, repeat(1, 1, flat(most-2)), most)
	checkCount(t, repeat(1, 1, flat(most-1)), most+1)
	checkCount(t, repeat(0, -1, flat(most-3)), most)
	checkCount(t, repeat(0, -1, flat(most-2)), most+1)
	checkCount(t, repeat(0, 1, flat(most-4)), most)
	checkCount(t, repeat(0, 1, flat(most-3)), most+1)
	checkCount(t, repeat(0, 0, flat(most)), 1)
	checkCount(t, cat(repeat(0, 0, flat(most)), lit('a')), 3)
	checkCount(t, repeat(64, 64, repeat(64, -1, flat(most))), most+1)
	n := lit('a')
	for range 1000 {
		n = repeat(64, 64, n)
	}
	checkCount(t, n, most+1)
	checkCount(t, repeat(0, 0, n), 1)
}

func checkBig(t *testing.T, n syntax.Node) {
	t.Helper()
	if got, err := Simplify(n); err != api.ErrBig || told(got) != told(syntax.Node{}) {
		t.Errorf("%.200s: %.200s, %v", told(n), told(got), err)
	}
}

func TestTooBig(t *testing.T) {
	most := "(?:a{64}){63}(?:a{62}){64}" + strings.Repeat("a", 62)
	checkCount(t, parsed(t, most), api.MaxProgram)
	if n, err := Simplify(parsed(t, most)); err != api.OK || len(n.Kids) != 64*63+62*64+62 {
		t.Errorf("as big as may be: %d, %v", len(n.Kids), err)
	}
	checkBig(t, parsed(t, most+"a"))
	checkBig(t, parsed(t, most+"(?:)"))
	checkBig(t, parsed(t, "("+most+")"))
	checkBig(t, parsed(t, "(?:"+most+"){1}"))
	checkBig(t, parsed(t, "(?:(?:a{64}){63}){2}"))
	checkBig(t, parsed(t, "((a{64}){64}){64}"))
	checkBig(t, parsed(t, strings.Repeat("(", 32)+"a"+strings.Repeat("{64})", 32)))
	checkTree(t, cat(make([]syntax.Node, api.MaxProgram-1)...), empty)
	checkBig(t, cat(make([]syntax.Node, api.MaxProgram)...))
	checkBig(t, alt(make([]syntax.Node, api.MaxProgram)...))
}

// TestSimpleMayCountMore: what is written out may count more than it did, and Count is what ErrBig goes by.
func TestSimpleMayCountMore(t *testing.T) {
	n := parsed(t, "(?:a{0,64}){0,40}")
	checkCount(t, n, 7801)
	simple, err := Simplify(n)
	if err != api.OK || told(simple) != modelOf(n).whole {
		t.Errorf("%.200s, %v", told(simple), err)
	}
	checkCount(t, simple, 12919)
	checkBig(t, simple)
}

// TestNoTimesOfMuch: what isn't there at all doesn't count, however big it would be.
func TestNoTimesOfMuch(t *testing.T) {
	much := strings.Repeat("(?:", 31) + "a" + strings.Repeat("{64})", 31)
	checkTexts(t, []example{
		{much + "{0}", empty},
		{much + "{0,0}?", empty},
		{"a" + much + "{0}b", letters("ab")},
		{"(?:" + much + "{0}){64}", empty},
		{"(?:" + much + "{0})*", again(empty)},
		{"a|" + much + "{0}", alt(lit('a'), empty)},
	})
}

// TestTreesMadeByHand: no Kid, other kinds, times that no pattern has: there is an answer.
func TestTreesMadeByHand(t *testing.T) {
	a := lit('a')
	checkTree(t, kind(syntax.Group), group(0, empty))
	checkTree(t, syntax.Node{Kind: syntax.Repeat, Max: -1}, again(empty))
	checkTree(t, syntax.Node{Kind: syntax.Repeat, Min: 2, Max: 2}, empty)
	checkTree(t, syntax.Node{Kind: syntax.Group, Cap: 3, Name: "x", Kids: []syntax.Node{a, a}}, name("x", group(3, a)))
	checkTree(t, kind(12), kind(12))
	checkTree(t, cat(kind(-1), a), cat(kind(-1), a))
	checkTree(t, syntax.Node{Kind: 12, Set: ranges(1, 2), Kids: []syntax.Node{a}}, syntax.Node{Kind: 12, Set: ranges(1, 2), Kids: []syntax.Node{a}})
	checkTree(t, repeat(3, 2, a), letters("aaa"))
	checkTree(t, repeat(-3, -1, a), again(a))
	checkTree(t, repeat(math.MinInt, math.MinInt, a), empty)
	checkTree(t, repeat(0, math.MinInt, a), empty)
	for _, n := range []syntax.Node{repeat(math.MaxInt, math.MaxInt, a), repeat(math.MaxInt, -1, a), repeat(math.MaxInt, 0, a), repeat(0, math.MaxInt, a), repeat(math.MinInt, math.MaxInt, a)} {
		checkCount(t, n, 1<<20+1)
		checkCount(t, repeat(math.MaxInt, math.MaxInt, n), 1<<20+1)
		checkBig(t, n)
	}
}

// TestDeepTree: as deep as one that isn't too big can be.
func TestDeepTree(t *testing.T) {
	n, want := lit('a'), lit('a')
	for range api.MaxProgram - 1 {
		n, want = group(1, n), group(1, want)
	}
	got, err := Simplify(n)
	for ; err == api.OK && want.Kind == syntax.Group && got.Kind == syntax.Group; got, want = got.Kids[0], want.Kids[0] {
	}
	if err != api.OK || told(got) != told(want) {
		t.Errorf("%.200s, %v", told(got), err)
	}
	checkCount(t, group(1, n), api.MaxProgram+1)
	for range 1 << 16 {
		n = group(1, n)
	}
	checkCount(t, n, api.MaxProgram+1<<16)
}
