package syntax

import (
	"strings"
	"testing"

	"ferret/api"
)

type wrongText struct {
	text string
	at   int
}

func checkFaults(t *testing.T, code api.Errno, l []wrongText) {
	t.Helper()
	for _, c := range l {
		for _, f := range []Flags{{}, {Fold: true, Lines: true, Dot: true, Lazy: true}} {
			p, fault := Parse(c.text, f)
			if fault != (api.Fault{Code: code, At: c.at}) {
				t.Errorf("%q: %v, want %v at %d", c.text, fault, code, c.at)
			}
			if told(p.Root) != told(Node{}) || len(p.Names) > 0 {
				t.Errorf("%q: beside a fault the pattern %v", c.text, p)
			}
		}
	}
}

func TestTooLong(t *testing.T) {
	most := strings.Repeat("a", api.MaxPattern)
	if p, fault := Parse(most, Flags{}); fault != (api.Fault{}) || len(p.Root.Kids) != api.MaxPattern {
		t.Errorf("as long as may be: %v", fault)
	}
	checkFaults(t, api.ErrLong, []wrongText{
		{most + "a", 0},
		{most + ")", 0},
		{")" + most, 0},
		{"\xFF" + most, 0},
		{"\uFEFF" + most, 0},
		{strings.Repeat("\u00E4", api.MaxPattern/2) + "a", 0},
		{strings.Repeat("(", 100000), 0},
	})
	checkFaults(t, api.ErrGroup, []wrongText{{most[1:] + ")", api.MaxPattern - 1}})
}

func TestNoText(t *testing.T) {
	checkFaults(t, api.ErrText, []wrongText{
		{"\xFF", 0},
		{"a\xC3", 1},
		{"\u00E4\x80", 2},
		{")(\\\xFF", 3}, // told ahead of all that is wrong with its scalars
		{"\uFEFF\xED\xA0\x80", 3},
		{"\xFF\xFEa\x00", 0},
		{"[\xC0\x80]", 1},
	})
}

func TestWrongGroups(t *testing.T) {
	long := strings.Repeat("a", 33)
	checkFaults(t, api.ErrGroup, []wrongText{
		{")", 0}, {"a)", 1}, {"a|)", 2}, {"(a))", 3}, {"\u00E4)", 2}, {"\uFEFF)", 3}, {"a))", 1}, {")(", 0}, {"a)[", 1}, {"(?i))", 4}, {"[(])", 3},
		{"(", 0}, {"a(b", 1}, {"a(b|", 1}, {"((", 1}, {"(()", 0}, {"(a)(b", 3}, {"((a)", 0}, {"(?:", 0}, {"a(?i:b", 1}, {"(?P<x>", 0}, {"\u00E4(", 2}, {"((?i)", 0}, {"(a\\)", 0}, {"(a[)]", 0}, {"(?i)(", 4},
		{"(?P", 0}, {"(?P)", 0}, {"(?P>", 0}, {"(?P<", 0}, {"(?P<>a)", 0}, {"(?P<x", 0}, {"(?P<x)", 0}, {"(?P<x y>)", 0}, {"(?P<x-y>)", 0}, {"(?P<\u00E4>)", 0}, {"(?P<" + long + ">)", 0}, {"(?P=x)", 0}, {"(?Pi)", 0}, {"(?P:a)", 0}, {"(?P'x')", 0}, {"a(?Px)\\", 1}, {"(a(?P<>))", 2},
		{"(?P<a>)(?P<a>)", 7}, {"(?P<a>(?P<a>))", 6}, {"(?P<a>)|b(?P<a>", 9}, {"(?P<x>)(?P<y>)(?P<x>)", 14}, {"\u00E4(?P<a>)(?P<a>)", 9},
	})
}

func TestWrongTokens(t *testing.T) {
	checkFaults(t, api.ErrToken, []wrongText{
		{"\\", 0}, {"ab\\", 2}, {"\\q", 0}, {"a\\y", 1}, {"\\a", 0}, {"\\Z", 0}, {"\\N", 0}, {"\\1", 0}, {"\\0", 0}, {"\\9", 0}, {"\\ ", 0}, {"\\\x7F", 0}, {"\\\n", 0}, {"\\\x00", 0},
		{"\\\u00E4", 0}, {"\\\u0164", 0}, {"\\\u0173", 0}, {"\\\U00010064", 0}, {"\u00E4\\q", 2}, {"\\Q", 0}, {"\\E", 0}, {"\\G", 0}, {"\\u0041", 0}, {"\\X", 0},
		{"\\x", 0}, {"\\x4", 0}, {"\\x4g", 0}, {"\\xg4", 0}, {"\\x{", 0}, {"\\x{}", 0}, {"\\x{41", 0}, {"\\x{4g}", 0}, {"\\x{0000041}", 0}, {"\\x{110000}", 0}, {"\\x{FFFFFF}", 0}, {"\\x{ 41}", 0}, {"\\x{-1}", 0}, {"\\x{+1}", 0}, {"\\x-1", 0}, {"\\x{4_1}", 0}, {"\\x{\uFF11}", 0},
		{"(?", 0}, {"(?)", 0}, {"(?x)", 0}, {"(?i", 0}, {"(?ix)", 0}, {"(?ii)", 0}, {"(?imi)", 0}, {"(?-)", 0}, {"(?-:a)", 0}, {"(?--i)", 0}, {"(?i-m-s)", 0}, {"(?mm)", 0}, {"(?ss)", 0}, {"(?UiU)", 0}, {"(?-ii)", 0}, {"(?-mm:a)", 0}, {"(?i-sms)", 0}, {"(?-UU)", 0}, {"(?i--)", 0}, {"(?u)", 0}, {"(?I)", 0}, {"(?=a)", 0}, {"(?!a)", 0}, {"(?<a>b)", 0}, {"(?<=a)", 0}, {"(?>a)", 0}, {"(?#a)", 0}, {"(?'a'b)", 0}, {"(?|a)", 0}, {"(?*)", 0}, {"(?iP<a>)", 0}, {"(?p<a>)", 0}, {"(? i)", 0}, {"a(?x)", 1}, {"(a(?x))", 2}, {"(?i(", 0}, {"(?i;a)", 0}, {"\u20AC(?", 3}, {"(?-", 0},
		{"[\\b]", 1}, {"[\\B]", 1}, {"[\\A]", 1}, {"[\\z]", 1}, {"[\\q]", 1}, {"[a\\", 2}, {"[\\1]", 1}, {"[^\\b]", 2}, {"[a-\\b]", 3}, {"[a-\\q]", 3}, {"[a-\\", 3}, {"[\\x4]", 1}, {"[\\x{110000}]", 1}, {"[a-\\x{110000}]", 3}, {"x[\u00E4\\b]", 4}, {"[\\\u00E4]", 1}, {"[z-\\A", 3},
	})
}

func TestTooDeep(t *testing.T) {
	opened := func(n int) string { return strings.Repeat("(", n) }
	closed := func(n int) string { return strings.Repeat(")", n) }
	for _, begin := range []string{"(", "(?:", "(?i:", "(?-s:"} {
		text := strings.Repeat(begin, api.MaxNest) + "a" + closed(api.MaxNest)
		if _, fault := Parse(text+text, Flags{}); fault != (api.Fault{}) {
			t.Errorf("as deep as may be: %v", fault)
		}
		deep := strings.Repeat(begin, api.MaxNest)
		checkFaults(t, api.ErrNest, []wrongText{{deep + "(", len(deep)}, {deep + "()" + closed(api.MaxNest), len(deep)}, {"(?i)()" + deep + "(", 6 + len(deep)}})
	}
	checkFaults(t, api.ErrNest, []wrongText{
		{opened(33) + "a" + closed(33), 32},
		{opened(100), 32},
		{opened(32) + "\u00E4(", 34},
		{opened(32) + "(?i)" + closed(32), 32},
		{opened(32) + "(?x)", 32}, // told ahead of what stands behind it
		{opened(32) + "(?P", 32},
		{opened(32) + "(*", 32},
		{opened(32) + ")((", 34},
		{"(?P<a>)" + opened(32) + "(?P<a>)", 39},
	})
	checkFaults(t, api.ErrGroup, []wrongText{{opened(32) + "\\([(]", 31}, {opened(32) + closed(33), 64}})
	checkFaults(t, api.ErrRepeat, []wrongText{{opened(32) + "*((", 32}})
}

func TestWrongRepeats(t *testing.T) {
	checkFaults(t, api.ErrRepeat, []wrongText{
		{"*", 0}, {"+", 0}, {"?", 0}, {"{2}", 0}, {"{2,}", 0}, {"{2,3}", 0}, {"a|*", 2}, {"|+", 1}, {"(*)", 1}, {"(?:*)", 3}, {"(?P<x>?)", 6}, {"(a|{2})", 3}, {"\uFEFF*", 3}, {"(*", 1},
		{"a**", 2}, {"a*+", 2}, {"a+*", 2}, {"a???", 3}, {"a*??", 3}, {"a{2}{3}", 4}, {"a{2}*", 4}, {"a{2}?{3}", 5}, {"a*{2}", 2}, {"a+?+", 3}, {"\u00E4**", 3}, {"a{2}??", 5},
		{"(?i)*", 4}, {"a(?i)*", 5}, {"a(?i){2}", 5}, {"a*(?i)?", 6}, {"(?i:(?m)+)", 8}, {"a(?-i)?", 6}, {"a(?i)(?m)*", 9},
		{"a{3,2}", 1}, {"a{1,0}", 1}, {"a{65}", 1}, {"a{65,}", 1}, {"a{0,65}", 1}, {"a{65,65}", 1}, {"a{9999}", 1}, {"a{0,9999}", 1}, {"a{9999,1}", 1}, {"a{64,63}?", 1}, {"ab{3,2})", 2}, {"\u00E4{0065}", 2}, {"{3,2}", 0}, {"a{2}{3,2}", 4},
	})
}

func TestWrongClasses(t *testing.T) {
	checkFaults(t, api.ErrClass, []wrongText{
		{"[", 0}, {"x[a", 1}, {"[]", 0}, {"[^", 0}, {"[^]", 0}, {"[]a", 0}, {"[a-", 0}, {"[a-z", 0}, {"[-", 0}, {"[\\]", 0}, {"[[a", 0}, {"a[b][c", 4}, {"\u00E4[", 2}, {"[\\d-", 0}, {"[a)", 0}, {"([a)", 1}, {"[a*\u20AC", 0}, {"((b[a", 3}, {"[^A-\\]", 0},
		{"\\p", 0}, {"\\P", 0}, {"\\pL", 0}, {"\\p{", 0}, {"\\p{}", 0}, {"\\p{L", 0}, {"\\p{No}", 0}, {"\\P{No}", 0}, {"\\p{l}", 0}, {"\\p{^L}", 0}, {"\\p{ L}", 0}, {"\\p{L }", 0}, {"\\p{Greek", 0}, {"\\p{Greekk}", 0}, {"\\p{Lu,Ll}", 0}, {"\\p{\u00E4}", 0}, {"\\p(L)", 0}, {"\u00E4\\p{x}", 2}, {"(\\p{L", 1},
		{"[\\p]", 1}, {"[\\p", 1}, {"[\\p{L", 1}, {"[a\\p{No}]", 2}, {"[\\P{any}]", 1}, {"[a-\\p{No}]", 3}, {"[z-\\pL]", 3},
	})
}

func TestWrongRanges(t *testing.T) {
	checkFaults(t, api.ErrRange, []wrongText{
		{"[b-a]", 1}, {"[b-a", 1}, {"[^b-a]", 2}, {"x[ab-a]", 3}, {"[a-c-ez-y]", 6}, {"[\\x{42}-\\x41]", 1}, {"[\u00F6-\u00E4]", 1}, {"[\u00E4b-a]", 3}, {"[a--]", 1}, {"[a-\\-]", 1}, {"[]-[]", 1}, {"[\\n-\\t]", 1}, {"[.--+]", 1}, {"[a-c--+]", 4}, {"[\\d--+]", 3}, {"[--+]", 1},
		{"[a-\\d]", 1}, {"[a-\\W]", 1}, {"[a-\\p{L}]", 1}, {"[a-\\P{Any}]", 1}, {"[\\x41-\\s", 1}, {"[xa-\\d]", 2}, {"[--\\d]", 1}, {"[\\--\\d]", 1}, {"[a-\\d\\q]", 1},
	})
}

func TestTheFirstFaultIsTold(t *testing.T) {
	checkFaults(t, api.ErrToken, []wrongText{{"(\\q", 1}, {"(a[\\q", 3}, {"\\q)", 0}, {"\\q**", 0}, {"(?x)**", 0}})
	checkFaults(t, api.ErrRepeat, []wrongText{{"(**", 1}, {"a**\\q", 2}, {"a{3,2}(", 1}, {"(a{65}", 2}})
	checkFaults(t, api.ErrRange, []wrongText{{"([b-a", 2}, {"[b-a\\q]", 1}})
	checkFaults(t, api.ErrGroup, []wrongText{{"(a)b)**", 4}, {"(?P<a>)(?P<a>**", 7}})
}
