package prog

import (
	"math"
	"strings"
	"testing"

	"ferret/api"
	"ferret/sets"
	"ferret/syntax"
)

func parsed(t *testing.T, text string) syntax.Pattern {
	t.Helper()
	p, fault := syntax.Parse(text, syntax.Flags{})
	if fault != (api.Fault{}) {
		t.Fatalf("%q: %v", text, fault)
	}
	return p
}

// lines: a program as the chapter's example writes it.
func lines(p Program) string {
	return strings.TrimSuffix(strings.ReplaceAll(p.Text(), "\n", "; "), "; ")
}

func checkText(t *testing.T, pattern, want string) {
	t.Helper()
	p, err := Compile(parsed(t, pattern))
	if err != api.OK || lines(p) != want {
		t.Errorf("%q: %v\n     %s\nwant %s", pattern, err, lines(p), want)
	}
}

func TestCompileByHand(t *testing.T) {
	for _, c := range []struct{ pattern, want string }{
		{"a*", "0 save 0 1; 1 split 2 4; 2 byte 97 97 3; 3 jump 1; 4 save 1 5; 5 match"},
		{"", "0 save 0 1; 1 save 1 2; 2 match"},
		{"a", "0 save 0 1; 1 byte 97 97 2; 2 save 1 3; 3 match"},
		{"ab", "0 save 0 1; 1 byte 97 97 2; 2 byte 98 98 3; 3 save 1 4; 4 match"},
		{"a*?", "0 save 0 1; 1 split 4 2; 2 byte 97 97 3; 3 jump 1; 4 save 1 5; 5 match"},
		{"a?", "0 save 0 1; 1 split 2 3; 2 byte 97 97 3; 3 save 1 4; 4 match"},
		{"a??", "0 save 0 1; 1 split 3 2; 2 byte 97 97 3; 3 save 1 4; 4 match"},
		{"a+", "0 save 0 1; 1 byte 97 97 2; 2 split 3 5; 3 byte 97 97 4; 4 jump 2; 5 save 1 6; 6 match"},
		{"a{2,3}", "0 save 0 1; 1 byte 97 97 2; 2 byte 97 97 3; 3 split 4 5; 4 byte 97 97 5; 5 save 1 6; 6 match"},
		{"a{0,2}?", "0 save 0 1; 1 split 5 2; 2 byte 97 97 3; 3 split 5 4; 4 byte 97 97 5; 5 save 1 6; 6 match"},
		{"a{0}", "0 save 0 1; 1 save 1 2; 2 match"},
		{"(?:)*", "0 save 0 1; 1 split 2 3; 2 jump 1; 3 save 1 4; 4 match"},
		{"(?:)??", "0 save 0 1; 1 split 2 2; 2 save 1 3; 3 match"},
		{"a|b", "0 save 0 1; 1 split 2 4; 2 byte 97 97 3; 3 jump 5; 4 byte 98 98 5; 5 save 1 6; 6 match"},
		{"a|b|c", "0 save 0 1; 1 split 2 4; 2 byte 97 97 3; 3 jump 8; 4 split 5 7; 5 byte 98 98 6; 6 jump 8; 7 byte 99 99 8; 8 save 1 9; 9 match"},
		{"|", "0 save 0 1; 1 split 2 3; 2 jump 3; 3 save 1 4; 4 match"},
		{"a|", "0 save 0 1; 1 split 2 4; 2 byte 97 97 3; 3 jump 4; 4 save 1 5; 5 match"},
		{"(a)", "0 save 0 1; 1 save 2 2; 2 byte 97 97 3; 3 save 3 4; 4 save 1 5; 5 match"},
		{"()(?P<x>)", "0 save 0 1; 1 save 2 2; 2 save 3 3; 3 save 4 4; 4 save 5 5; 5 save 1 6; 6 match"},
		{"((a)){2}", "0 save 0 1; 1 save 2 2; 2 save 4 3; 3 byte 97 97 4; 4 save 5 5; 5 save 3 6; 6 save 2 7; 7 save 4 8; 8 byte 97 97 9; 9 save 5 10; 10 save 3 11; 11 save 1 12; 12 match"},
		{"(a){0}(b)", "0 save 0 1; 1 save 4 2; 2 byte 98 98 3; 3 save 5 4; 4 save 1 5; 5 match"},
		{`\A\z(?m:^$)\b\B`, "0 save 0 1; 1 assert 2 2; 2 assert 3 3; 3 assert 4 4; 4 assert 5 5; 5 assert 6 6; 6 assert 7 7; 7 save 1 8; 8 match"},
		{"[a-c]", "0 save 0 1; 1 byte 97 99 2; 2 save 1 3; 3 match"},
		{"[a-cx]", "0 save 0 1; 1 split 2 4; 2 byte 97 99 3; 3 jump 5; 4 byte 120 120 5; 5 save 1 6; 6 match"},
		{"(?i)k", "0 save 0 1; 1 split 2 4; 2 byte 75 75 3; 3 jump 10; 4 split 5 7; 5 byte 107 107 6; 6 jump 10; 7 byte 226 226 8; 8 byte 132 132 9; 9 byte 170 170 10; 10 save 1 11; 11 match"},
		{"\u00E4", "0 save 0 1; 1 byte 195 195 2; 2 byte 164 164 3; 3 save 1 4; 4 match"},
		{"\U00010400", "0 save 0 1; 1 byte 240 240 2; 2 byte 144 144 3; 3 byte 144 144 4; 4 byte 128 128 5; 5 save 1 6; 6 match"},
		{"[\u00E4-\u00E6]*", "0 save 0 1; 1 split 2 5; 2 byte 195 195 3; 3 byte 164 166 4; 4 jump 1; 5 save 1 6; 6 match"},
		{`[^\x{0}-\x{10FFFF}]`, "0 save 0 1; 1 fail; 2 save 1 3; 3 match"},
		{`\x{D800}`, "0 save 0 1; 1 fail; 2 save 1 3; 3 match"},
		{`a|[^\x{0}-\x{10FFFF}]`, "0 save 0 1; 1 split 2 4; 2 byte 97 97 3; 3 jump 5; 4 fail; 5 save 1 6; 6 match"},
		{"(?:ab|c)*d", "0 save 0 1; 1 split 2 8; 2 split 3 6; 3 byte 97 97 4; 4 byte 98 98 5; 5 jump 7; 6 byte 99 99 7; 7 jump 1; 8 byte 100 100 9; 9 save 1 10; 10 match"},
		{"(?:a*)*", "0 save 0 1; 1 split 2 6; 2 split 3 5; 3 byte 97 97 4; 4 jump 2; 5 jump 1; 6 save 1 7; 7 match"},
	} {
		checkText(t, c.pattern, c.want)
	}
}

func TestGroupsAreCounted(t *testing.T) {
	for pattern, want := range map[string]int{
		"": 1, "a": 1, "(?:a)": 1, "(a)": 2, "(?P<x>a)b": 2, "(a)(b(c))": 4, "(a){0}": 2, "(a){3}": 2, strings.Repeat("()", 100): 101,
	} {
		p, err := Compile(parsed(t, pattern))
		if err != api.OK || p.Groups != want {
			t.Errorf("%q: %d, %v; want %d", pattern, p.Groups, err, want)
		}
	}
	// The Names alone tell it, whatever stands in the tree.
	for _, names := range [][]string{nil, {""}, {"", "x", "", "y"}} {
		p, err := Compile(syntax.Pattern{Names: names})
		if err != api.OK || p.Groups != len(names) || lines(p) != "0 save 0 1; 1 save 1 2; 2 match" {
			t.Errorf("%q: %d, %v: %s", names, p.Groups, err, lines(p))
		}
	}
}

func checkBig(t *testing.T, what string, p syntax.Pattern) {
	t.Helper()
	if got, err := Compile(p); err != api.ErrBig || got.List != nil || got.Groups != 0 {
		t.Errorf("%.60s: %d instructions, %d groups, %v", what, len(got.List), got.Groups, err)
	}
}

func checkLength(t *testing.T, what string, p syntax.Pattern, want int) {
	t.Helper()
	got, err := Compile(p)
	if err != api.OK || len(got.List) != want {
		t.Errorf("%.60s: %d instructions, %v; want %d", what, len(got.List), err, want)
		return
	}
	checkShape(t, what, got)
}

// TestTooBig: what layer 12 takes may still come to too many instructions.
func TestTooBig(t *testing.T) {
	const most = api.MaxProgram
	rows := "(?:\u00E4{64}){63}" + strings.Repeat("\u00E4", 62)
	for _, c := range []struct {
		pattern string
		want    int
	}{
		{rows, most - 1},
		{rows + "a", most},
		{rows + `\b`, most},
		{rows + `\x{D800}`, most},
		{rows + "(?:)", most - 1},
		{rows + "(?:)?", most},
		{rows + "a{0}", most - 1},
		{"(?:(?:a{64}){63}(?:a{62}){64}" + strings.Repeat("a", 61) + ")", 8061 + 3},
	} {
		checkLength(t, c.pattern, parsed(t, c.pattern), c.want)
	}
	for _, pattern := range []string{
		rows + "aa", rows + "\u00E4", rows + "()", "(" + rows + ")", rows + "a?", rows + "(?:)*", "(?:)*" + rows, rows + "|", rows + "ab|c", rows + `\b\B`, rows + "[ab\u00E4]", rows + "a|",
		`(?:[^a]{64}){64}`, `(?:\p{P}{64}){64}`, "(?:(?:a|b|c){64}){10}((?:d|e|f){64}){10}",
		"(?:(?:(?:){64}){64}){2}", "((a{64}){64}){64}", strings.Repeat("(", 32) + "a" + strings.Repeat("{64})", 32),
	} {
		checkBig(t, pattern, parsed(t, pattern))
	}
	borders := make([]syntax.Node, most)
	for i := range borders {
		borders[i].Kind = syntax.Word
	}
	of := func(kind, count int) syntax.Pattern {
		return syntax.Pattern{Root: syntax.Node{Kind: kind, Kids: borders[:count]}, Names: []string{""}}
	}
	checkLength(t, "borders", of(syntax.Cat, most-3), most)
	for count := most - 2; count <= most; count++ {
		checkBig(t, "borders", of(syntax.Cat, count))
	}
	// Of n alternatives of one instruction there are 3n - 2.
	checkLength(t, "alternatives", of(syntax.Alt, 2730), 3*2730-2+3)
	checkBig(t, "alternatives", of(syntax.Alt, 2731))
	checkBig(t, "alternatives", of(syntax.Alt, most))
	empty := syntax.Node{Kind: syntax.Cat, Kids: make([]syntax.Node, most)}
	checkBig(t, "nothing, too often", syntax.Pattern{Root: empty})
	checkLength(t, "nothing", syntax.Pattern{Root: syntax.Node{Kind: syntax.Cat, Kids: empty.Kids[1:]}}, 3)
}

// TestManyRows: a Class of so many rows that their instructions are just not too many, and one more.
func TestManyRows(t *testing.T) {
	every := func(step, count int) syntax.Pattern {
		var s sets.Set
		for i := range count {
			s = append(s, api.Range{From: step * i, To: step * i})
		}
		return syntax.Pattern{Root: syntax.Node{Kind: syntax.Class, Set: s}, Names: []string{""}}
	}
	// 64 rows of one byte and 960 of two, the rest of three: two more for each row but the last.
	length := func(count int) int { return 64*3 + 960*4 + (count-1024)*5 - 2 + 3 }
	checkLength(t, "rows", every(2, 1855), length(1855))
	if length(1855) != 8188 {
		t.Errorf("another edge: %d", length(1855))
	}
	checkBig(t, "rows", every(2, 1856))
	checkBig(t, "rows", every(2, 1<<19))
}

// TestBigIsToldSoon: where there are too many instructions, what follows isn't laid any more.
func TestBigIsToldSoon(t *testing.T) {
	m := maker{list: make([]Instr, api.MaxProgram)}
	root := parsed(t, "a(b|c)*(?i:k)").Root
	m.tree(syntax.Node{Kind: syntax.Word})
	m.tree(root)
	m.tree(root)
	if m.next() != api.MaxProgram+1 {
		t.Errorf("%d instructions", m.next())
	}
}

func TestDeepTree(t *testing.T) {
	n := syntax.Node{Kind: syntax.Word}
	for range 4094 {
		n = syntax.Node{Kind: syntax.Group, Cap: 1, Kids: []syntax.Node{n}}
	}
	checkLength(t, "deep", syntax.Pattern{Root: n, Names: []string{"", ""}}, api.MaxProgram)
	n = syntax.Node{Kind: syntax.Group, Cap: 1, Kids: []syntax.Node{n}}
	checkBig(t, "too deep", syntax.Pattern{Root: n, Names: []string{"", ""}})
	for range 1 << 16 {
		n = syntax.Node{Kind: syntax.Group, Cap: 1, Kids: []syntax.Node{n}}
	}
	checkBig(t, "far too deep", syntax.Pattern{Root: n, Names: []string{"", ""}})
}

// TestTreesMadeByHand: no Kids, other kinds, times that no pattern has: there is an answer.
func TestTreesMadeByHand(t *testing.T) {
	for _, n := range []syntax.Node{
		{Kind: syntax.Cat}, {Kind: syntax.Alt}, {Kind: syntax.Repeat}, {Kind: syntax.Repeat, Max: -1}, {Kind: syntax.Group}, {Kind: syntax.Group, Cap: math.MaxInt},
		{Kind: -1}, {Kind: 12}, {Kind: math.MinInt}, {Kind: syntax.Class}, {Kind: syntax.Repeat, Min: -5, Max: 1}, {Kind: syntax.Repeat, Min: 2, Max: 1},
	} {
		if _, err := Compile(syntax.Pattern{Root: n}); err != api.OK {
			t.Errorf("%v: %v", n, err)
		}
	}
}

func TestText(t *testing.T) {
	all := Program{List: []Instr{
		{Kind: Byte, A: 7, Range: api.Range{From: 1, To: 255}},
		{Kind: Split, A: 20, B: 3},
		{Kind: Jump, A: 0},
		{Kind: Save, A: 4, B: 11},
		{Kind: Assert, A: 5, B: 6},
		{Kind: Match},
		{Kind: Fail},
		{Kind: Jump, A: math.MinInt},
		{Kind: Split, A: -1, B: math.MaxInt},
		{Kind: Match, A: 1, B: 2, Range: api.Range{From: 3, To: 4}},
		{Kind: Byte},
	}}
	want := "0 byte 1 255 7\n1 split 20 3\n2 jump 0\n3 save 11 4\n4 assert 6 5\n5 match\n6 fail\n7 jump -9223372036854775808\n8 split -1 9223372036854775807\n9 match\n10 byte 0 0 0\n"
	if got := all.Text(); got != want {
		t.Errorf("%q, want %q", got, want)
	}
	for _, p := range []Program{{}, {Groups: 3}, {List: []Instr{}}} {
		if got := p.Text(); got != "" {
			t.Errorf("of no instructions: %q", got)
		}
	}
	// Of other kinds nothing is promised but that there is an answer.
	for _, kind := range []int{-1, 7, math.MinInt, math.MaxInt} {
		Program{List: []Instr{{Kind: kind}}}.Text()
	}
}

func TestKindsAreNumbered(t *testing.T) {
	for want, got := range []int{Byte, Split, Jump, Save, Assert, Match, Fail} {
		if got != want {
			t.Errorf("%d, want %d", got, want)
		}
	}
}
