package dfa

import (
	"maps"
	"math"
	"slices"
	"strings"
	"testing"

	"ferret/api"
	"ferret/pike"
	"ferret/prog"
	"ferret/syntax"
)

func compiled(t *testing.T, text string) prog.Program {
	t.Helper()
	p, fault := syntax.Parse(text, syntax.Flags{})
	if fault != (api.Fault{}) {
		t.Fatalf("%q: %v", text, fault)
	}
	x, err := prog.Compile(p)
	if err != api.OK {
		t.Fatalf("%q: %v", text, err)
	}
	return x
}

const (
	anywhere = false
	fixed    = true
	none     = -1 // in tables: there is no end
)

func checkEnd(t *testing.T, d *DFA, what, text string, from int, fixed bool, want int) {
	t.Helper()
	got, ok := d.End(text, from, fixed)
	if ok != (want != none) || ok && got != want || !ok && got != 0 {
		t.Fatalf("%q over %.60q from %d, fixed %v: %d %v, want %d", what, text, from, fixed, got, ok, want)
	}
	checkRoom(t, d, what)
}

func checkRoom(t *testing.T, d *DFA, what string) {
	t.Helper()
	if kept, most := d.States(); kept < 0 || kept > most || most < api.MinStates || most > api.MaxStates {
		t.Fatalf("%q: %d states of %d", what, kept, most)
	}
}

func TestEndByHand(t *testing.T) {
	for _, c := range []struct {
		pattern, text string
		from          int
		fixed         bool
		want          int
	}{
		{"a+b?", "xaab", 0, anywhere, 4},

		{"", "", 0, anywhere, 0},
		{"", "", 0, fixed, 0},
		{"", "abc", 3, anywhere, 3},
		{"", "abc", 1, fixed, 1},
		{"a", "", 0, anywhere, none},
		{"a", "bab", 0, anywhere, 2},
		{"a", "bab", 1, anywhere, 2},
		{"a", "bab", 2, anywhere, none},
		{"a", "bab", 0, fixed, none},
		{"a", "bab", 1, fixed, 2},
		{"ab", "ba", 0, anywhere, none},

		// The first way of a place, not the longest one; and of the places the first.
		{"a|ab", "xab", 0, anywhere, 2},
		{"ab|a", "xab", 0, anywhere, 3},
		{"ab|a", "xac", 0, anywhere, 2},
		{"(a|ab)(c|bcd)?", "abcd", 0, anywhere, 4},
		{"abcd|bc|c", "abcx", 0, anywhere, 3},
		{"abcd|ab|bcx", "abcx", 0, anywhere, 2},
		{"b|abcde|abc", "abcd", 0, anywhere, 3},
		{"a*", "baac", 0, anywhere, 0},
		{"a*", "baac", 1, anywhere, 3},
		{"a*?", "aaa", 0, anywhere, 0},
		{"a*?b", "xaab", 0, anywhere, 4},
		{"a+?", "aaa", 0, anywhere, 1},
		{"(a*)*", "aab", 0, anywhere, 2},
		{"(|a)*", "aa", 0, anywhere, 2},
		{"(?:)*", "aa", 1, anywhere, 1},

		// Borders, in all of the text.
		{"^b", "ab", 1, anywhere, none},
		{"^b", "ab", 1, fixed, none},
		{"^a", "ab", 0, anywhere, 1},
		{"a$", "a\n", 0, anywhere, none},
		{"a$", "aa", 0, anywhere, 2},
		{"(?m)a$", "a\n", 0, anywhere, 1},
		{"(?m)^b", "a\nb", 0, anywhere, 3},
		{"(?m)^b", "a\nb", 2, fixed, 3},
		{"(?m)^b", "ab", 1, anywhere, none},
		{"(?m)$", "a\nb", 0, anywhere, 1},
		{"(?m)$", "a\nb", 2, anywhere, 3},
		{`\z`, "ab", 0, anywhere, 2},
		{`\z`, "ab", 0, fixed, none},
		{`\bb`, "ab b", 0, anywhere, 4},
		{`\bb`, "ab", 1, anywhere, none},
		{`\Bb`, "ab", 1, fixed, 2},
		{`\B`, "a", 0, anywhere, none},
		{`\b`, " a", 0, anywhere, 1},
		{`a\b|ab`, "ab a", 0, anywhere, 2},

		// Bytes and scalars.
		{"\u00E4", "x\u00E4", 0, anywhere, 3},
		{".", "\n\xFF\u00E4", 0, anywhere, 4},
		{".", "\u00E4", 1, anywhere, none},
		{"", "\u00E4", 1, anywhere, 1},
		{"[^a]", "\xFF\xC3", 0, anywhere, none},
		{`\x{0}`, "a\x00", 0, anywhere, 2},
		{"(?i)k", "\u212A", 0, anywhere, 3},
		{`\x{D800}`, "\xED\xA0\x80", 0, anywhere, none},
		{`\x{D800}|a`, "\xED\xA0\x80a", 0, anywhere, 4},
	} {
		p := compiled(t, c.pattern)
		for _, states := range []int{0, 5, api.MaxStates} {
			d := New(p, states)
			checkEnd(t, d, c.pattern, c.text, c.from, c.fixed, c.want)
			checkEnd(t, d, c.pattern, c.text, c.from, c.fixed, c.want)
		}
	}
}

// TestPlacesThatAreNot: whatever the pattern, from there nothing is found.
func TestPlacesThatAreNot(t *testing.T) {
	for _, pattern := range []string{"", "a", "a*", `\z`, `\B`, "(?m)^"} {
		d := New(compiled(t, pattern), 16)
		for _, text := range []string{"", "a", "aaa", "\u00E4"} {
			for _, from := range []int{-1, -2, len(text) + 1, len(text) + 2, math.MinInt, math.MaxInt} {
				checkEnd(t, d, pattern, text, from, fixed, none)
				checkEnd(t, d, pattern, text, from, anywhere, none)
			}
		}
	}
}

func TestHowManyMayBeKept(t *testing.T) {
	for states, want := range map[int]int{
		math.MinInt: 4, -1: 4, 0: 4, 3: 4, 4: 4, 5: 5, 100: 100, 1023: 1023, 1024: 1024, 1025: 1024, math.MaxInt: 1024,
	} {
		d := New(compiled(t, "a"), states)
		if kept, most := d.States(); kept > most || most != want {
			t.Errorf("%d asked: %d of %d", states, kept, most)
		}
	}
}

func TestNil(t *testing.T) {
	var d *DFA
	for _, from := range []int{-1, 0, 1} {
		if at, ok := d.End("a", from, anywhere); at != 0 || ok {
			t.Errorf("%d %v", at, ok)
		}
	}
	if kept, most := d.States(); kept != 0 || most != 0 {
		t.Errorf("%d of %d", kept, most)
	}
	// New never gives nil, and a zero DFA has an answer too.
	if New(prog.Program{}, 0) == nil {
		t.Error("nil")
	}
	if at, ok := new(DFA).End("a", 0, anywhere); at != 0 || ok {
		t.Errorf("%d %v", at, ok)
	}
	new(DFA).States()
}

// TestStatesAreKept: as long as there is room, what was made once isn't made again; else all are given up.
func TestStatesAreKept(t *testing.T) {
	pattern := "[ab]*a[ab]{6}"
	p := compiled(t, pattern)
	text := strings.Repeat("abababbbaaabbabababbaabbaba", 20)
	great, small := New(p, api.MaxStates), New(p, 0)
	checkEnd(t, great, pattern, text, 0, fixed, len(text))
	kept, _ := great.States()
	if kept <= api.MinStates || kept == api.MaxStates {
		t.Errorf("%d states", kept)
	}
	was := maps.Clone(great.machine.states)
	checkEnd(t, great, pattern, text, 0, fixed, len(text))
	for key, s := range great.machine.states {
		if was[key] != s {
			t.Errorf("a state was made again: %v", s)
		}
	}
	checkEnd(t, small, pattern, text, 0, fixed, len(text))
	if kept, most := small.States(); most != api.MinStates || kept < 1 || kept > most {
		t.Errorf("%d of %d", kept, most)
	}
}

// TestRoomByRoom: the answer is the same however many states are kept, and after each byte there are no more than may be.
func TestRoomByRoom(t *testing.T) {
	pattern := `\Ab|(?m:^)[ab \n]*?\bb[ab ]{4}c`
	p := compiled(t, pattern)
	text := strings.Repeat("ab bba\nab abb aab \nbbabaa bb", 9) + " baab c"
	for states := range 70 {
		checkEnd(t, New(p, states), pattern, text, 0, anywhere, len(text))
	}
	d := New(p, 0)
	w := &walker{Program: d.machine.Program}
	s := d.machine.keep(state{ways: []int{0}, begins: true})
	for i := range len(text) {
		s = d.machine.behind(w, s, int(text[i]))
		checkRoom(t, d, pattern)
		if !slices.ContainsFunc(keptOf(d), func(kept *state) bool { return kept == s }) {
			t.Fatalf("what ways stand at behind %d bytes isn't kept", i+1)
		}
		for _, kept := range keptOf(d) {
			for _, next := range kept.next {
				if next != nil && d.machine.states[next.key()] != next {
					t.Fatalf("behind %d bytes a state that is kept leads to one that was given up", i+1)
				}
			}
		}
	}
}

func keptOf(d *DFA) []*state {
	var l []*state
	for _, s := range d.machine.states {
		l = append(l, s)
	}
	return l
}

// TestBordersOfAllBytes: each beside each.
func TestBordersOfAllBytes(t *testing.T) {
	for kind := syntax.BeginText; kind <= syntax.NotWord; kind++ {
		p, err := prog.Compile(syntax.Pattern{Root: syntax.Node{Kind: kind}, Names: []string{""}})
		if err != api.OK {
			t.Fatal(err)
		}
		d := New(p, 64)
		for first := range 256 {
			for second := range 256 {
				text := string([]byte{byte(first), byte(second)})
				for from := range 3 {
					want := none
					if prog.Holds(kind, text, from) {
						want = from
					}
					checkEnd(t, d, "a border", text, from, fixed, want)
				}
			}
		}
		want := none
		if prog.Holds(kind, "", 0) {
			want = 0
		}
		checkEnd(t, d, "a border", "", 0, anywhere, want)
	}
}

// TestRangesOfAllBytes: at the ends of each range bytes are told from each other.
func TestRangesOfAllBytes(t *testing.T) {
	for from := range 256 {
		for to := from; to < 256; to += 5 {
			byHand := prog.Program{Groups: 1, List: []prog.Instr{
				{Kind: prog.Save, A: 1}, {Kind: prog.Byte, A: 2, Range: api.Range{From: from, To: to}}, {Kind: prog.Save, A: 3, B: 1}, {Kind: prog.Match},
			}}
			d := New(byHand, 8)
			for b := range 256 {
				if _, ok := d.End(string([]byte{byte(b)}), 0, fixed); ok != (from <= b && b <= to) {
					t.Fatalf("%x in %x to %x: %v", b, from, to, ok)
				}
			}
		}
	}
}

// TestLongTexts: in which what is tried again at each place would never end.
func TestLongTexts(t *testing.T) {
	const length = 1 << 20
	long := strings.Repeat("a", length)
	for pattern, want := range map[string]int{
		"a*b": none, "(?:a|a)*b": none, "(?:(?:a*)*)*b": none, "(a*)*": length, "(?:a?){9}a*?c|aa": 2, "(?:a|aa)+?$": length, `\z`: length, `\Ba*\b`: length,
	} {
		p := compiled(t, pattern)
		if pattern == `\Ba*\b` {
			checkEnd(t, New(p, 0), pattern, long, 1, anywhere, want)
			continue
		}
		checkEnd(t, New(p, 0), pattern, long, 0, anywhere, want)
		checkEnd(t, New(p, api.MaxStates), pattern, long, 0, anywhere, want)
	}
	if at, ok := New(compiled(t, "(?:a?){64}a{64}"), 0).End(long[:64], 0, anywhere); at != 64 || !ok {
		t.Errorf("%d %v", at, ok)
	}
	// States come and go at nearly each byte.
	pattern := "[ab]*a[ab]{9}c"
	mixed := strings.Repeat("abababbbaaabbabababbaabbaba", length/200)
	checkEnd(t, New(compiled(t, pattern), 0), pattern, mixed+"dc", 0, anywhere, none)
	checkEnd(t, New(compiled(t, pattern), 0), pattern, mixed+"abbbbbbbbbc", 0, anywhere, len(mixed)+11)
	checkEnd(t, New(compiled(t, pattern), api.MaxStates), pattern, mixed+"abbbbbbbbbc", 0, anywhere, len(mixed)+11)
}

// TestStopsAtTheFirst: behind a match no byte is looked at that can't change it, so all of these are soon done.
func TestStopsAtTheFirst(t *testing.T) {
	d, e := New(compiled(t, "a|b*c"), 0), New(compiled(t, "b"), 0)
	long := "a" + strings.Repeat("x", 1<<20)
	for range 20000 {
		checkEnd(t, d, "a|b*c", long, 0, anywhere, 1)
		checkEnd(t, e, "b", long, 0, fixed, none)
	}
}

// TestGreatPrograms: the greatest that may be.
func TestGreatPrograms(t *testing.T) {
	rows := "(?:\u00E4{64}){63}" + strings.Repeat("\u00E4", 62) + "a"
	p := compiled(t, rows)
	if len(p.List) != api.MaxProgram {
		t.Fatalf("%d instructions", len(p.List))
	}
	text := "b" + strings.Repeat("\u00E4", 64*63+62)
	for _, states := range []int{api.MinStates, api.MaxStates} {
		checkEnd(t, New(p, states), rows, text+"a", 1, fixed, len(text)+1)
		checkEnd(t, New(p, states), rows, text[:2000]+"a", 0, anywhere, none)
	}
}

func TestNothingIsChangedOrKept(t *testing.T) {
	made := compiled(t, "(a|b[^c])*?(?:(c)|d)$")
	room := append(slices.Clone(made.List), prog.Instr{Kind: 77}, prog.Instr{Kind: 78})
	was := slices.Clone(room)
	p := prog.Program{List: room[:len(made.List)], Groups: made.Groups}
	d, unasked := New(p, 16), New(p, 16)
	checkEnd(t, d, "all", "xbac", 0, anywhere, 4)
	if !slices.Equal(room, was) {
		t.Errorf("the program was changed: %v", room)
	}
	for i := range room {
		room[i] = prog.Instr{Kind: prog.Fail}
	}
	checkEnd(t, d, "all", "xdbac", 0, anywhere, 5)
	checkEnd(t, unasked, "all", "xdbac", 0, anywhere, 5)
	// What one DFA keeps is none of another's.
	other := New(compiled(t, "x"), 16)
	checkEnd(t, other, "x", "xbac", 0, anywhere, 1)
	checkEnd(t, d, "all", "xbac", 0, anywhere, 4)
}

// TestProgramsOfTrees that no pattern has: as layer 15, so this one.
func TestProgramsOfTrees(t *testing.T) {
	checkEnd(t, New(prog.Program{}, 4), "what Compile gives beside an error", "a", 0, anywhere, none)
	empty, _ := prog.Compile(syntax.Pattern{})
	checkEnd(t, New(empty, 4), "no group", "a", 0, anywhere, none)
	for _, group := range []int{0, 2, -1, 7, math.MaxInt, math.MinInt} {
		root := syntax.Node{Kind: syntax.Group, Cap: group, Kids: []syntax.Node{{}}}
		p, _ := prog.Compile(syntax.Pattern{Root: root, Names: []string{"", ""}})
		checkEnd(t, New(p, 4), "a group", "ab", 1, anywhere, pike.Run(p, "ab", 1, anywhere)[1])
	}
}

// TestProgramsByHand: of them nothing is promised but that there is an answer.
func TestProgramsByHand(t *testing.T) {
	for _, list := range [][]prog.Instr{
		nil,
		{{Kind: prog.Jump}},
		{{Kind: prog.Jump, A: 1}},
		{{Kind: prog.Jump, A: -1}},
		{{Kind: prog.Split}},
		{{Kind: prog.Split, A: math.MaxInt, B: math.MinInt}},
		{{Kind: prog.Byte, A: 9, Range: api.Range{From: math.MinInt, To: math.MaxInt}}},
		{{Kind: prog.Byte, Range: api.Range{From: 0, To: 255}}},
		{{Kind: prog.Byte, Range: api.Range{From: 300, To: 256}}},
		{{Kind: prog.Save, B: math.MaxInt}, {Kind: prog.Match}},
		{{Kind: prog.Assert, A: 1, B: 99}, {Kind: prog.Match}},
		{{Kind: 7}}, {{Kind: -1}}, {{Kind: prog.Fail}}, {{Kind: prog.Match}},
	} {
		for _, groups := range []int{-1, 0, 1, 3} {
			for _, only := range []bool{fixed, anywhere} {
				New(prog.Program{List: list, Groups: groups}, 4).End("ab\ncd", 1, only)
			}
		}
	}
}

func TestKindsAreNumbered(t *testing.T) {
	for want, got := range []int{nothing, newline, inWord, another} {
		if got != want {
			t.Errorf("%d, want %d", got, want)
		}
		text := sample(got)
		if kindOf(byteAt(text, 0)) != got {
			t.Errorf("the sample of %d is %q", got, text)
		}
	}
}
