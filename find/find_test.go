package find

import (
	"math"
	"reflect"
	"slices"
	"strings"
	"testing"

	"ferret/api"
	"ferret/pike"
	"ferret/prog"
	"ferret/syntax"
)

// engines are all kinds there are, some of them with numbers of states that may not be.
var engines = []Engine{
	{}, {States: 99},
	{Lazy: true}, {Lazy: true, States: api.MinStates}, {Lazy: true, States: 7}, {Lazy: true, States: api.MaxStates},
	{Lazy: true, States: -1}, {Lazy: true, States: math.MinInt}, {Lazy: true, States: math.MaxInt},
	{Words: true}, {Words: true, States: -1},
	{Lazy: true, Words: true}, {Lazy: true, Words: true, States: 5}, {Lazy: true, Words: true, States: math.MaxInt},
}

const most = math.MaxInt

func parsed(t *testing.T, text string) syntax.Pattern {
	t.Helper()
	p, fault := syntax.Parse(text, syntax.Flags{})
	if fault != (api.Fault{}) {
		t.Fatalf("%q: %v", text, fault)
	}
	return p
}

func finder(t *testing.T, text string, e Engine) *Finder {
	t.Helper()
	f, err := New(parsed(t, text), e)
	if err != api.OK || f == nil {
		t.Fatalf("%q, %v: %v %v", text, e, f, err)
	}
	return f
}

func compiled(t *testing.T, text string) prog.Program {
	t.Helper()
	x, err := prog.Compile(parsed(t, text))
	if err != api.OK {
		t.Fatalf("%q: %v", text, err)
	}
	return x
}

// alike: an empty list is the same as none.
func alike(a, b [][]int) bool {
	return slices.EqualFunc(a, b, slices.Equal)
}

func TestAllByHand(t *testing.T) {
	for _, c := range []struct {
		pattern, text string
		want          [][]int
	}{
		{"a*", "baac", [][]int{{0, 0}, {1, 3}, {4, 4}}},

		{"ab", "abxabab", [][]int{{0, 2}, {3, 5}, {5, 7}}},
		{"aa", "aaaaa", [][]int{{0, 2}, {2, 4}}},
		{"x", "", nil},
		{"x", "abc", nil},
		{"abc", "ab", nil},
		{"c", "abc", [][]int{{2, 3}}},
		{"a|ab", "abab", [][]int{{0, 1}, {2, 3}}},
		{"(a|ab)(c|bcd)?", "abcdac", [][]int{{0, 4, 0, 1, 1, 4}, {4, 6, 4, 5, 5, 6}}},
		{"(a)|b", "ab", [][]int{{0, 1, 0, 1}, {1, 2, -1, -1}}},
		{`\x{D800}`, "\xED\xA0\x80a", nil},

		// Empty ones: at each place but where the last one ended.
		{"", "", [][]int{{0, 0}}},
		{"", "ab", [][]int{{0, 0}, {1, 1}, {2, 2}}},
		{"()", "a", [][]int{{0, 0, 0, 0}, {1, 1, 1, 1}}},
		{"a*", "", [][]int{{0, 0}}},
		{"a*", "aa", [][]int{{0, 2}}},
		{"a*", "aab", [][]int{{0, 2}, {3, 3}}},
		{"a*", "baab", [][]int{{0, 0}, {1, 3}, {4, 4}}},
		{"a*", "bb", [][]int{{0, 0}, {1, 1}, {2, 2}}},
		{"a*?", "aa", [][]int{{0, 0}, {1, 1}, {2, 2}}},
		{"|a", "aa", [][]int{{0, 0}, {1, 1}, {2, 2}}},
		{"a|", "aba", [][]int{{0, 1}, {2, 3}}},
		{"a|", "abba", [][]int{{0, 1}, {2, 2}, {3, 4}}},
		{"a|()", "abba", [][]int{{0, 1, -1, -1}, {2, 2, 2, 2}, {3, 4, -1, -1}}},
		{"a|$", "ba", [][]int{{1, 2}}},
		{"a|$", "ab", [][]int{{0, 1}, {2, 2}}},
		{`b|\b`, "ab b", [][]int{{0, 0}, {1, 2}, {3, 4}}},

		// Borders, in all of the text.
		{`\b`, "a b", [][]int{{0, 0}, {1, 1}, {2, 2}, {3, 3}}},
		{`\b`, "", nil},
		{`\B`, "a", nil},
		{`\B`, "ab", [][]int{{1, 1}}},
		{"^a", "aaa", [][]int{{0, 1}}},
		{"^", "a\nb", [][]int{{0, 0}}},
		{"$", "a\nb", [][]int{{3, 3}}},
		{"(?m)^", "a\n\nb", [][]int{{0, 0}, {2, 2}, {3, 3}}},
		{"(?m)$", "a\n\nb\n", [][]int{{1, 1}, {2, 2}, {4, 4}, {5, 5}}},
		{"(?m)^a", "a\naa\nba\n", [][]int{{0, 1}, {2, 3}}},
		{`\ba`, "aaa a", [][]int{{0, 1}, {4, 5}}},
		{`\Ba`, "aaa a", [][]int{{1, 2}, {2, 3}}},

		// The next place behind one.
		{"", "\u00E4", [][]int{{0, 0}, {2, 2}}},
		{"", "a\u00E4\u4E2D\U0001F600b", [][]int{{0, 0}, {1, 1}, {3, 3}, {6, 6}, {10, 10}, {11, 11}}},
		{"", "\x7F\x80\xBF\xC0", [][]int{{0, 0}, {3, 3}, {4, 4}}},
		{"", "a\x80\x80\x80", [][]int{{0, 0}, {4, 4}}},
		{"", "a\x80\x80\x80\x80", [][]int{{0, 0}, {4, 4}, {5, 5}}},
		{"", "a\x80\x80\x80\x80b", [][]int{{0, 0}, {4, 4}, {5, 5}, {6, 6}}},
		{"", "\x80\x80\x80\x80\x80\x80\x80\x80\x80", [][]int{{0, 0}, {4, 4}, {8, 8}, {9, 9}}},
		{"", "\xBF", [][]int{{0, 0}, {1, 1}}},
		{"", "\x80\x80a", [][]int{{0, 0}, {2, 2}, {3, 3}}},
		{"", "\xC3\xFF\xFF", [][]int{{0, 0}, {1, 1}, {2, 2}, {3, 3}}},
		{"a|", "a\u00E4b", [][]int{{0, 1}, {3, 3}, {4, 4}}},
		{"a|", "aa\u00E4a", [][]int{{0, 1}, {1, 2}, {4, 5}}},
		{"a*", "\u00E4aa\u4E2D", [][]int{{0, 0}, {2, 4}, {7, 7}}},
		{`\B`, "\u00E4a", [][]int{{0, 0}}},

		// Scalars.
		{".", "a\u00E4\n\xFF\u4E2D", [][]int{{0, 1}, {1, 3}, {5, 8}}},
		{"\u00E4", "\u00E4\u00E4\xC3", [][]int{{0, 2}, {2, 4}}},
		{"(?i)k", "kK\u212A", [][]int{{0, 1}, {1, 2}, {2, 5}}},
	} {
		for _, e := range engines {
			if got := finder(t, c.pattern, e).All(c.text, most); !alike(got, c.want) {
				t.Errorf("%v: %q over %q: %v, want %v", e, c.pattern, c.text, got, c.want)
			}
		}
		if model := allByWords(compiled(t, c.pattern), c.text, most); !alike(model, c.want) {
			t.Errorf("%q over %q: the model has %v", c.pattern, c.text, model)
		}
	}
}

func TestAllAtMost(t *testing.T) {
	for _, c := range []struct {
		pattern, text string
		count         int
	}{
		{"a", "aaaaa", 5}, {"a", "abaca", 3}, {"a*", "baac", 3}, {"", "\u00E4\u00E4", 3}, {"", "", 1}, {"a", "b", 0}, {`\b`, "ab cd", 4},
	} {
		for _, e := range engines {
			f := finder(t, c.pattern, e)
			whole := f.All(c.text, c.count)
			if len(whole) != c.count {
				t.Fatalf("%v: %q over %q: %v", e, c.pattern, c.text, whole)
			}
			for count := range c.count + 1 {
				if got := f.All(c.text, count); !alike(got, whole[:count]) {
					t.Errorf("%v: %q over %q, at most %d: %v", e, c.pattern, c.text, count, got)
				}
			}
			for _, count := range []int{c.count + 1, c.count + 2, math.MaxInt - 1, math.MaxInt} {
				if got := f.All(c.text, count); !alike(got, whole) {
					t.Errorf("%v: %q over %q, at most %d: %v", e, c.pattern, c.text, count, got)
				}
			}
			for _, count := range []int{0, -1, -2, math.MinInt, math.MinInt + 1} {
				if got := f.All(c.text, count); len(got) > 0 {
					t.Errorf("%v: %q over %q, at most %d: %v", e, c.pattern, c.text, count, got)
				}
			}
		}
	}
}

func TestFirstByHand(t *testing.T) {
	for _, c := range []struct {
		pattern, text string
		from          int
		want          []int
	}{
		{"(a|ab)(c|bcd)?", "abcd", 0, []int{0, 4, 0, 1, 1, 4}},
		{"(a|ab)(c|bcd)?", "abcd", 1, nil},
		{"ab", "abxab", 0, []int{0, 2}},
		{"ab", "abxab", 1, []int{3, 5}},
		{"ab", "abxab", 3, []int{3, 5}},
		{"ab", "abxab", 4, nil},
		{"ab", "abxab", 5, nil},
		{"a*", "baac", 0, []int{0, 0}},
		{"a*", "baac", 2, []int{2, 3}},
		{"a*", "baac", 4, []int{4, 4}},
		{"", "\u00E4", 1, []int{1, 1}},
		{"^a", "aa", 1, nil},
		{"^a", "aa", 0, []int{0, 1}},
		{"(?m)^b", "ab\nb", 1, []int{3, 4}},
		{`\bb`, "ab b", 1, []int{3, 4}},
		{`\Bb`, "ab b", 1, []int{1, 2}},
		{"(x)?b", "axb", 0, []int{1, 3, 1, 2}},
		{"(x)?b", "axb", 2, []int{2, 3, -1, -1}},
		{"abc|b", "abab", 0, []int{1, 2}},
		{"ab*c", "abbabc", 0, []int{3, 6}},
		{"a", "", 0, nil},
		{"", "", 0, []int{0, 0}},
		{`\x{D800}`, "\xED\xA0\x80", 0, nil},
	} {
		for _, e := range engines {
			if got := finder(t, c.pattern, e).First(c.text, c.from); !slices.Equal(got, c.want) {
				t.Errorf("%v: %q over %q from %d: %v, want %v", e, c.pattern, c.text, c.from, got, c.want)
			}
		}
		if got := pike.Run(compiled(t, c.pattern), c.text, c.from, anywhere); !slices.Equal(got, c.want) {
			t.Errorf("%q over %q from %d: layer 15 notes %v", c.pattern, c.text, c.from, got)
		}
	}
}

// TestPlacesThatAreNot: whatever the pattern and the engine, from there nothing is found.
func TestPlacesThatAreNot(t *testing.T) {
	for _, e := range engines {
		for _, pattern := range []string{"", "a", "a*", "(a)|", `\z`, `\B`, "(?m)^", "aa"} {
			f := finder(t, pattern, e)
			for _, text := range []string{"", "a", "aaa", "\u00E4"} {
				for _, from := range []int{-1, -2, len(text) + 1, len(text) + 2, math.MinInt, math.MinInt + 1, math.MaxInt, math.MaxInt - 1} {
					if got := f.First(text, from); len(got) > 0 {
						t.Errorf("%v: %q over %q from %d: %v", e, pattern, text, from, got)
					}
				}
			}
		}
	}
}

func TestGroups(t *testing.T) {
	for _, e := range engines {
		for _, c := range []struct {
			pattern string
			want    int
		}{
			{"", 1}, {"a", 1}, {"(?:a)", 1}, {"(a)", 2}, {"(a)|(b)", 3}, {"(a(?P<x>b)){0}", 3}, {"(?:(a)){5}", 2}, {strings.Repeat("()", 300), 301},
		} {
			f := finder(t, c.pattern, e)
			if got := f.Groups(); got != c.want {
				t.Errorf("%v: %.20q: %d, want %d", e, c.pattern, got, c.want)
			}
			if l := f.First("ab", 0); l != nil && len(l) != 2*c.want {
				t.Errorf("%v: %.20q: %v", e, c.pattern, l)
			}
		}
	}
}

func TestTooBig(t *testing.T) {
	for _, pattern := range []string{
		"(?:(?:a{64}){64}){3}", // the tree's count
		"(?:\u00E4{64}){64}",   // the instructions
		"(?:\u00E4{64}){63}" + strings.Repeat("\u00E4", 62) + "aa", // one of them too many
	} {
		_, want := prog.Compile(parsed(t, pattern))
		for _, e := range engines {
			if f, err := New(parsed(t, pattern), e); f != nil || err != api.ErrBig || err != want {
				t.Errorf("%v: %q: %v %v", e, pattern, f, err)
			}
		}
	}
	pattern := "(?:\u00E4{64}){63}" + strings.Repeat("\u00E4", 62) + "a"
	text := strings.Repeat("\u00E4", 64*63+62) + "a"
	want := [][]int{{1, 1 + len(text)}, {2 + len(text), 2 + 2*len(text)}}
	for _, e := range []Engine{{}, {Lazy: true, States: api.MaxStates}, {Words: true}, {Lazy: true, Words: true, States: api.MaxStates}} {
		f := finder(t, pattern, e)
		if got := f.All("b"+text+"b"+text, most); len(f.List) != api.MaxProgram || !alike(got, want) {
			t.Errorf("%v: the greatest: %v", e, got)
		}
	}
}

func TestNilFinder(t *testing.T) {
	var f *Finder
	if f.Groups() != 0 {
		t.Error("Groups")
	}
	for _, text := range []string{"", "a", "aaa"} {
		for _, number := range []int{0, 1, 2, -1, math.MinInt, math.MaxInt} {
			if l := f.First(text, number); len(l) > 0 {
				t.Errorf("First: %v", l)
			}
			if l := f.All(text, number); len(l) > 0 {
				t.Errorf("All: %v", l)
			}
		}
	}
}

// TestEnginesAreUsed: a Lazy one makes states, as many as may be kept, and one with Words knows with what matches begin; others have neither.
func TestEnginesAreUsed(t *testing.T) {
	for _, e := range engines {
		f := finder(t, "ab*c|abd", e)
		f.All("xxabxabbcxabd", most)
		kept, may := f.states.States()
		if want := min(max(e.States, api.MinStates), api.MaxStates); e.Lazy && (kept < 1 || may != want) || !e.Lazy && may != 0 {
			t.Errorf("%v: %d states of %d", e, kept, may)
		}
		if e.Words != f.start.first.Has('a') || f.start.first.Has('x') || f.Engine != e {
			t.Errorf("%v: %v", e, f.start)
		}
		f = finder(t, "(ab)c+", e)
		if e.Words != (f.start.word == "abc") {
			t.Errorf("%v: %v", e, f.start)
		}
	}
}

// TestAskedAgain: what is told doesn't hang on what was asked before, nor one finder on another of the same pattern.
func TestAskedAgain(t *testing.T) {
	texts := []string{"baac", "", "aab\naab", "\u00E4ab", "abababab", "ba", "xx"}
	for _, e := range engines {
		for _, pattern := range []string{"a*b?", "ab", `\b[ab]+?`, "(a)|(b)", "(?m)^a|b$"} {
			f := finder(t, pattern, e)
			for range 3 {
				for _, text := range texts {
					fresh := finder(t, pattern, Engine{})
					if got, want := f.All(text, most), fresh.All(text, most); !alike(got, want) {
						t.Fatalf("%v: %q over %q: %v, want %v", e, pattern, text, got, want)
					}
					if got, want := f.First(text, len(text)/2), fresh.First(text, len(text)/2); !slices.Equal(got, want) {
						t.Fatalf("%v: %q over %q: %v, want %v", e, pattern, text, got, want)
					}
				}
			}
		}
	}
}

func TestNothingIsChangedOrShared(t *testing.T) {
	const pattern, text = "(?:(a)|[bc\u00E4])(d?)", "xadbcd\u00E4"
	want := [][]int{{1, 3, 1, 2, 2, 3}, {3, 4, -1, -1, 4, 4}, {4, 6, -1, -1, 5, 6}, {6, 8, -1, -1, 8, 8}}
	for _, e := range engines {
		p := parsed(t, pattern)
		f, _ := New(p, e)
		if !reflect.DeepEqual(p, parsed(t, pattern)) {
			t.Fatalf("%v: the pattern was changed", e)
		}
		spoil(&p.Root)
		first, second := f.All(text, most), f.All(text, most)
		if !alike(first, want) || !alike(second, want) {
			t.Fatalf("%v: %v, %v", e, first, second)
		}
		for _, l := range second {
			clear(l[:cap(l)])
			if !alike(first, want) {
				t.Fatalf("%v: memory is shared: %v", e, first)
			}
		}
		for i, l := range first[:len(first)-1] {
			clear(l[:cap(l)])
			if !alike(first[i+1:], want[i+1:]) {
				t.Fatalf("%v: memory is shared within an answer: %v", e, first)
			}
		}
		one := f.First(text, 0)
		clear(one[:cap(one)])
		if third := f.All(text, most); !alike(third, want) {
			t.Fatalf("%v: memory is shared with what is kept: %v", e, third)
		}
	}
}

// spoil changes all of a tree in its place.
func spoil(n *syntax.Node) {
	for i := range n.Set {
		n.Set[i] = api.Range{From: 'x', To: 'x'}
	}
	for i := range n.Kids {
		spoil(&n.Kids[i])
	}
	n.Kind, n.Min, n.Max, n.Cap, n.Fold = syntax.Class, 3, 3, 7, true
}

// TestLongTexts: with so many matches, or with so few, that each search must begin where the last one ended, and pass over what can't begin.
func TestLongTexts(t *testing.T) {
	const size = 1 << 18
	dense, sparse := strings.Repeat("a", size), strings.Repeat("b", size-3)+"aaa"
	for _, c := range []struct {
		pattern, text string
		count         int
		last          []int
	}{
		{"a", dense, size, []int{size - 1, size}},
		{"", dense, size + 1, []int{size, size}},
		{"a*", dense, 1, []int{0, size}},
		{"(a)(a)(a)", dense, size / 3, []int{size - 4, size - 1, size - 4, size - 3, size - 3, size - 2, size - 2, size - 1}},
		{"ab", dense, 0, nil},
		{"aa?", sparse, 2, []int{size - 1, size}},
		{"b{64}", sparse, (size - 3) / 64, []int{size - 128, size - 64}},
	} {
		for _, e := range []Engine{{}, {Lazy: true, States: 99}, {Words: true}, {Lazy: true, Words: true, States: 99}} {
			l := finder(t, c.pattern, e).All(c.text, most)
			if len(l) != c.count || len(l) > 0 && !slices.Equal(l[len(l)-1], c.last) {
				t.Errorf("%v: %q: %d matches", e, c.pattern, len(l))
			}
		}
	}
}

// TestPatternsByHand: of them nothing is promised but that there is an answer.
func TestPatternsByHand(t *testing.T) {
	leaf := syntax.Node{Kind: syntax.Class, Set: []api.Range{{From: 'a', To: 'b'}}}
	for _, p := range []syntax.Pattern{
		{},
		{Root: leaf},
		{Names: []string{""}},
		{Root: leaf, Names: []string{"", "x", "x"}},
		{Root: syntax.Node{Kind: syntax.Group, Cap: 0, Kids: []syntax.Node{leaf}}, Names: []string{""}},
		{Root: syntax.Node{Kind: syntax.Cat, Kids: []syntax.Node{leaf, {Kind: syntax.Group, Cap: 0, Kids: []syntax.Node{{}}}}}, Names: []string{""}},
		{Root: syntax.Node{Kind: syntax.Group, Cap: math.MaxInt, Kids: []syntax.Node{leaf}}, Names: []string{""}},
		{Root: syntax.Node{Kind: syntax.Group, Cap: -1, Kids: []syntax.Node{leaf}}, Names: []string{""}},
		{Root: syntax.Node{Kind: 99}, Names: []string{""}},
		{Root: syntax.Node{Kind: -1}, Names: []string{""}},
	} {
		for _, e := range engines {
			f, err := New(p, e)
			if err != api.OK || f.Groups() != len(p.Names) {
				t.Errorf("%v, %v: %v %v", p, e, f, err)
			}
			f.First("xab", 1)
			f.All("xabab", most)
		}
	}
	for _, f := range []*Finder{{}, {Engine: Engine{Lazy: true}}, {Engine: Engine{Words: true}}, {Engine: Engine{Lazy: true, Words: true}}} {
		if f.Groups() != 0 || len(f.First("a", 0)) > 0 || len(f.All("a", most)) > 0 {
			t.Errorf("%v", f)
		}
	}
}
