package pike

import (
	"math"
	"slices"
	"strings"
	"testing"

	"ferret/api"
	"ferret/prog"
	"ferret/syntax"
)

func compiled(t *testing.T, text string) prog.Program {
	t.Helper()
	p, fault := syntax.Parse(text, syntax.Flags{})
	if fault != (api.Fault{}) {
		t.Fatalf("%q: %v", text, fault)
	}
	x, err := prog.Compile(p)
	if err != api.OK {
		t.Fatalf("%q: %v", text, err)
	}
	return x
}

const (
	anywhere = false
	fixed    = true
)

func TestRunByHand(t *testing.T) {
	for _, c := range []struct {
		pattern, text string
		from          int
		fixed         bool
		want          []int
	}{
		{"(a|ab)(c|bcd)?", "abcd", 0, anywhere, []int{0, 4, 0, 1, 1, 4}},

		{"", "", 0, anywhere, []int{0, 0}},
		{"", "", 0, fixed, []int{0, 0}},
		{"", "abc", 3, anywhere, []int{3, 3}},
		{"", "abc", 1, fixed, []int{1, 1}},
		{"a", "", 0, anywhere, nil},
		{"a", "bab", 0, anywhere, []int{1, 2}},
		{"a", "bab", 1, anywhere, []int{1, 2}},
		{"a", "bab", 2, anywhere, nil},
		{"a", "bab", 3, anywhere, nil},
		{"a", "bab", 0, fixed, nil},
		{"a", "bab", 1, fixed, []int{1, 2}},
		{"ab", "ba", 0, anywhere, nil},
		{"c", "abc", 0, anywhere, []int{2, 3}},

		// The first way of a place, not the longest one; and of the places the first.
		{"a|ab", "xab", 0, anywhere, []int{1, 2}},
		{"ab|a", "xab", 0, anywhere, []int{1, 3}},
		{"(?:a|ab)(?:c|bcd)", "abcd", 0, anywhere, []int{0, 4}},
		{"abcd|bc|c", "abcx", 0, anywhere, []int{1, 3}},
		{"abcd|ab|bcx", "abcx", 0, anywhere, []int{0, 2}},
		{"b|abcde|abc", "abcd", 0, anywhere, []int{0, 3}},
		{"a*", "baac", 0, anywhere, []int{0, 0}},
		{"a*", "baac", 1, anywhere, []int{1, 3}},
		{"a*?", "aaa", 0, anywhere, []int{0, 0}},
		{"a+?", "aaa", 0, anywhere, []int{0, 1}},
		{"a*?b", "xaab", 0, anywhere, []int{1, 4}},
		{"a??b", "ab", 0, anywhere, []int{0, 2}},
		{"a{2,3}", "aaaa", 0, anywhere, []int{0, 3}},
		{"a{2,3}?", "aaaa", 0, anywhere, []int{0, 2}},

		// Groups.
		{"(a+)(a*)", "aaa", 0, anywhere, []int{0, 3, 0, 3, 3, 3}},
		{"(a+?)(a*)", "aaa", 0, anywhere, []int{0, 3, 0, 1, 1, 3}},
		{"(a)|b", "b", 0, anywhere, []int{0, 1, -1, -1}},
		{"(b)|a", "ab", 0, anywhere, []int{0, 1, -1, -1}},
		{"(a){0}b", "b", 0, anywhere, []int{0, 1, -1, -1}},
		{"(?:(a)|b)*", "ab", 0, anywhere, []int{0, 2, 0, 1}},
		{"(?:(a)|(b))*", "ab", 0, anywhere, []int{0, 2, 0, 1, 1, 2}},
		{"(a|(b))*", "ba", 0, anywhere, []int{0, 2, 1, 2, 0, 1}},
		{"(?:(a)b|(a)c)", "ac", 0, anywhere, []int{0, 2, -1, -1, 0, 1}},
		{"((a)(b)?)*c", "abac", 0, anywhere, []int{0, 4, 2, 3, 2, 3, 1, 2}},
		{"(x*)(y*)z", "xyyxyz", 0, anywhere, []int{3, 6, 3, 4, 4, 5}},

		// What may be empty, again and again: an instruction at a place is come to once.
		{"(a*)*", "aab", 0, anywhere, []int{0, 2, 0, 2}},
		{"(a*)*", "b", 0, anywhere, []int{0, 0, -1, -1}},
		{"(a*)+", "b", 0, anywhere, []int{0, 0, 0, 0}},
		{"(|a)*", "aa", 0, anywhere, []int{0, 2, 1, 2}},
		{"(|a)+", "aa", 0, anywhere, []int{0, 2, 1, 2}},
		{"(?:)*", "aa", 0, anywhere, []int{0, 0}},
		{"(?:(?:)*)*a", "aa", 0, anywhere, []int{0, 1}},

		// Borders, in all of the text.
		{"^b", "ab", 1, anywhere, nil},
		{"^b", "ab", 1, fixed, nil},
		{"^a", "ab", 0, anywhere, []int{0, 1}},
		{"a$", "a\n", 0, anywhere, nil},
		{"(?m)a$", "a\n", 0, anywhere, []int{0, 1}},
		{"(?m)^b", "a\nb", 0, anywhere, []int{2, 3}},
		{"(?m)^b", "a\nb", 2, fixed, []int{2, 3}},
		{"(?m)^b", "ab", 1, anywhere, nil},
		{"(?m)$", "a\nb", 0, anywhere, []int{1, 1}},
		{"(?m)$", "a\nb", 2, anywhere, []int{3, 3}},
		{`\z`, "ab", 0, anywhere, []int{2, 2}},
		{`\z`, "ab", 0, fixed, nil},
		{`\bb`, "ab b", 0, anywhere, []int{3, 4}},
		{`\bb`, "ab", 1, anywhere, nil},
		{`\Bb`, "ab", 1, fixed, []int{1, 2}},
		{`\B`, "a", 0, anywhere, nil},
		{`\b`, " a", 0, anywhere, []int{1, 1}},

		// Bytes and scalars.
		{"\u00E4", "x\u00E4", 0, anywhere, []int{1, 3}},
		{".", "\n\xFF\u00E4", 0, anywhere, []int{2, 4}},
		{".", "\u00E4", 1, anywhere, nil},
		{"", "\u00E4", 1, anywhere, []int{1, 1}},
		{"[^a]", "\xFF\xC3", 0, anywhere, nil},
		{"(?s).", "a\n", 1, anywhere, []int{1, 2}},
		{`\x{0}`, "a\x00", 0, anywhere, []int{1, 2}},
		{"(?i)k", "\u212A", 0, anywhere, []int{0, 3}},
		{"(?i)stra\u00DFe", "STRA\u00DFE", 0, anywhere, []int{0, 7}},
		{`\x{D800}`, "\xED\xA0\x80", 0, anywhere, nil},
		{`\x{D800}|a`, "\xED\xA0\x80a", 0, anywhere, []int{3, 4}},
	} {
		p := compiled(t, c.pattern)
		if got := Run(p, c.text, c.from, c.fixed); !slices.Equal(got, c.want) {
			t.Errorf("%q over %q from %d, fixed %v: %v, want %v", c.pattern, c.text, c.from, c.fixed, got, c.want)
		}
		if model := byWords(p, c.text, c.from, c.fixed); !slices.Equal(model, c.want) {
			t.Errorf("%q over %q from %d, fixed %v: the model has %v", c.pattern, c.text, c.from, c.fixed, model)
		}
	}
}

// TestPlacesThatAreNot: whatever the pattern, from there nothing is found.
func TestPlacesThatAreNot(t *testing.T) {
	for _, pattern := range []string{"", "a", "a*", "(a)|", `\z`, `\B`, "(?m)^"} {
		p := compiled(t, pattern)
		for _, text := range []string{"", "a", "aaa", "\u00E4"} {
			for _, from := range []int{-1, -2, len(text) + 1, len(text) + 2, math.MinInt, math.MaxInt} {
				for _, only := range []bool{fixed, anywhere} {
					if got := Run(p, text, from, only); len(got) > 0 {
						t.Errorf("%q over %q from %d: %v", pattern, text, from, got)
					}
				}
			}
		}
	}
}

// TestManyWays: in texts so long that what is tried at a place again would never end.
func TestManyWays(t *testing.T) {
	long := strings.Repeat("a", 1<<20)
	for _, c := range []struct {
		pattern string
		want    []int
	}{
		{"a*b", nil},
		{"(?:a|a)*b", nil},
		{"(?:(?:a*)*)*b", nil},
		{"(a*)*", []int{0, 1 << 20, 0, 1 << 20}},
		{"(?:a?){9}a*?c|aa", []int{0, 2}},
		{"(?:a|aa)+?$", []int{0, 1 << 20}},
		{"a*?$", []int{0, 1 << 20}},
		{"(a)*", []int{0, 1 << 20, 1<<20 - 1, 1 << 20}},
		{`\z`, []int{1 << 20, 1 << 20}},
	} {
		if got := Run(compiled(t, c.pattern), long, 0, anywhere); !slices.Equal(got, c.want) {
			t.Errorf("%q: %v, want %v", c.pattern, got, c.want)
		}
	}
	short := strings.Repeat("a", 64)
	if got := Run(compiled(t, "(?:a?){64}a{64}"), short, 0, anywhere); !slices.Equal(got, []int{0, 64}) {
		t.Errorf("%v", got)
	}
	if got := Run(compiled(t, "(?:(?:(?:(?:a|a)*)*)*)*b"), short, 0, anywhere); len(got) > 0 {
		t.Errorf("%v", got)
	}
}

// TestStopsAtTheFirst: behind a match no byte is looked at that can't change it, so all of these are soon done.
func TestStopsAtTheFirst(t *testing.T) {
	p, q := compiled(t, "a|b*c"), compiled(t, "b")
	long := "a" + strings.Repeat("x", 1<<20)
	for range 20000 {
		if got := Run(p, long, 0, anywhere); !slices.Equal(got, []int{0, 1}) {
			t.Fatalf("%v", got)
		}
		if got := Run(q, long, 0, fixed); len(got) > 0 {
			t.Fatalf("%v", got)
		}
	}
}

// TestManyGroups: each has its own two numbers.
func TestManyGroups(t *testing.T) {
	const count = 341
	p := compiled(t, strings.Repeat("(a)", count))
	want := []int{1, count + 1}
	for i := range count {
		want = append(want, i+1, i+2)
	}
	if got := Run(p, "b"+strings.Repeat("a", count+5), 0, anywhere); !slices.Equal(got, want) {
		t.Errorf("%v", got)
	}
}

// TestGreatPrograms: the greatest that may be, each instruction of which is come to.
func TestGreatPrograms(t *testing.T) {
	rows := "(?:\u00E4{64}){63}" + strings.Repeat("\u00E4", 62) + "a"
	p := compiled(t, rows)
	if len(p.List) != api.MaxProgram {
		t.Fatalf("%d instructions", len(p.List))
	}
	text := "b" + strings.Repeat("\u00E4", 64*63+62)
	if got := Run(p, text+"a", 0, anywhere); !slices.Equal(got, []int{1, len(text) + 1}) {
		t.Errorf("%v", got)
	}
	if got := Run(p, text, 0, anywhere); len(got) > 0 {
		t.Errorf("%v", got)
	}
}

func TestNothingIsChangedOrShared(t *testing.T) {
	made := compiled(t, "(a|b[^c])*?(?:(c)|d)$")
	room := append(slices.Clone(made.List), prog.Instr{Kind: 77}, prog.Instr{Kind: 78})
	was := slices.Clone(room)
	p := prog.Program{List: room[:len(made.List)], Groups: made.Groups}
	want := []int{1, 4, 1, 3, 3, 4}
	first := Run(p, "xbac", 0, anywhere)
	second := Run(p, "xbac", 0, anywhere)
	if !slices.Equal(first, want) || !slices.Equal(second, want) {
		t.Fatalf("%v, %v", first, second)
	}
	if !slices.Equal(room, was) {
		t.Errorf("the program was changed: %v", room)
	}
	clear(second[:cap(second)])
	if third := Run(p, "xbac", 0, anywhere); !slices.Equal(first, want) || !slices.Equal(third, want) {
		t.Errorf("memory is shared: %v, %v", first, third)
	}
}

// TestProgramsOfTrees that no pattern has: Groups may be fewer than the tree's.
func TestProgramsOfTrees(t *testing.T) {
	if got := Run(prog.Program{}, "a", 0, anywhere); len(got) > 0 {
		t.Errorf("of what Compile gives beside an error: %v", got)
	}
	empty, _ := prog.Compile(syntax.Pattern{})
	if got := Run(empty, "a", 0, anywhere); len(got) > 0 {
		t.Errorf("of no group: %v", got)
	}
	for _, group := range []int{2, -1, 7, math.MaxInt, math.MinInt} {
		root := syntax.Node{Kind: syntax.Group, Cap: group, Kids: []syntax.Node{{}}}
		p, _ := prog.Compile(syntax.Pattern{Root: root, Names: []string{"", ""}})
		got := Run(p, "ab", 1, anywhere)
		if len(got) != 4 {
			t.Errorf("group %d: %v", group, got)
		}
	}
}

// TestProgramsByHand: of them nothing is promised but that there is an answer.
func TestProgramsByHand(t *testing.T) {
	for _, list := range [][]prog.Instr{
		nil,
		{{Kind: prog.Jump}},
		{{Kind: prog.Jump, A: 1}},
		{{Kind: prog.Jump, A: -1}},
		{{Kind: prog.Split}},
		{{Kind: prog.Split, A: math.MaxInt, B: math.MinInt}},
		{{Kind: prog.Byte, A: 9, Range: api.Range{From: math.MinInt, To: math.MaxInt}}},
		{{Kind: prog.Byte, Range: api.Range{From: 0, To: 255}}},
		{{Kind: prog.Save, B: math.MaxInt}, {Kind: prog.Match}},
		{{Kind: prog.Save, A: 1, B: math.MinInt}, {Kind: prog.Match}},
		{{Kind: prog.Assert, A: 1, B: 99}, {Kind: prog.Match}},
		{{Kind: 7}}, {{Kind: -1}}, {{Kind: prog.Fail}}, {{Kind: prog.Match}},
	} {
		for _, groups := range []int{-1, 0, 1, 3} {
			for _, only := range []bool{fixed, anywhere} {
				Run(prog.Program{List: list, Groups: groups}, "ab\ncd", 1, only)
			}
		}
	}
}
