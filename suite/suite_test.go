package suite

import (
	"math"
	"slices"
	"strings"
	"testing"

	"ferret/api"
	"ferret/coding"
	"ferret/find"
	"ferret/gz"
	"ferret/syntax"
	"ferret/tape"
)

var engines = []find.Engine{
	{},
	{Lazy: true},
	{Words: true},
	{Lazy: true, Words: true},
	{Lazy: true, States: 5},
	{Lazy: true, Words: true, States: api.MaxStates},
	{Lazy: true, Words: true, States: math.MinInt},
	{Lazy: true, States: math.MaxInt},
	{States: -1},
}

// check runs by each engine; so that what is told doesn't hang on it is asked of each case.
func check(t *testing.T, what, blob string, o Options, want string, wrong Fault) {
	t.Helper()
	for _, o.Engine = range engines {
		if got, fault := Run(blob, o); got != want || fault != wrong {
			t.Errorf("%s: %+v: %q %v, want %q %v", what, o, got, fault, want, wrong)
			return
		}
	}
}

// over: options for a text of UTF-8 that stands by itself.
func over(pattern string) Options {
	return Options{Container: Raw, Coding: coding.UTF8, Most: 9999, Pattern: pattern}
}

func (o Options) by(mode int) Options               { o.Mode = mode; return o }
func (o Options) most(n int) Options                { o.Most = n; return o }
func (o Options) coded(n int) Options               { o.Coding = n; return o }
func (o Options) inside(n int) Options              { o.Container = n; return o }
func (o Options) strict() Options                   { o.Strict = true; return o }
func (o Options) invert() Options                   { o.Invert = true; return o }
func (o Options) multi() Options                    { o.Multi = true; return o }
func (o Options) named() Options                    { o.Named = true; return o }
func (o Options) flagged(f syntax.Flags) Options    { o.Flags = f; return o }
func (o Options) replacing(template string) Options { o.Mode, o.Template = Replace, template; return o }

func wrongIn(member int, code api.Errno, at int) Fault {
	return Fault{Code: code, Member: member, At: at}
}

// TestTenExamples are those of the whole.
func TestTenExamples(t *testing.T) {
	none := Fault{}
	check(t, "1", "xay\nb", over("a"), "1:xay\n", none)
	check(t, "1, inverted", "xay\nb", over("a").invert(), "2:b\n", none)
	check(t, "2", "K\u212A", over("k").flagged(syntax.Flags{Fold: true}).by(Each), "0:K\n1:\u212A\n", none)
	check(t, "3", "abcd", over("(a|ab)(c|bcd)?").by(Each), "0:abcd\n", none)
	check(t, "3, its groups", "abcd", over("(a|ab)(c|bcd)?").replacing("$0;$1;$2"), "abcd;a;bcd", none)
	check(t, "4", "baac", over("a*").by(Each), "0:\n1:aa\n4:\n", none)
	check(t, "5", "abc", over("(b)").replacing("<$1$$>"), "a<b$>c", none)
	check(t, "6", "xay\nb", over("y\nb"), "", none)
	check(t, "6, with Multi", "xay\nb", over("y\nb").multi(), "1:xay\n2:b\n", none)

	parts := packed(t, gz.Part{Name: "p", Data: "xa"}, gz.Part{Data: "y\nb"})
	check(t, "7, parts", parts, over("ay").inside(AutoBlob).named(), "p:1:xay\n", none)
	three := archived(t, file("f", "a\n"), file("g", "b"), file("h", "\na"))
	check(t, "7, files", three, over("a").inside(AutoBlob).named(), "f:1:a\nh:2:a\n", none)

	bad := archived(t, file("f", "a\n"), file("g", "ba\xFFa"), file("h", "a"))
	check(t, "8", bad, over("a").inside(Tar).strict(), "1:a\n", wrongIn(1, api.ErrText, 2))
	check(t, "9", "a", over("a{3,2}"), "", wrongIn(InPattern, api.ErrRepeat, 1))
	check(t, "9, a template", "a", over("(a)").replacing("$2"), "", wrongIn(InTemplate, api.ErrTemplate, 0))
	check(t, "10, cut off in what fills a block up", three[:600], over("a").inside(Tar), "1:a\n", none)
	check(t, "10", three[:513], over("a").inside(Tar), "", wrongIn(InBlob, api.ErrEnd, 512))
	check(t, "10, packed", parts[:len(parts)-3], over("a").inside(Gzip), "", wrongIn(InBlob, api.ErrEnd, len(parts)-8))
}

func TestFaultsOfOptions(t *testing.T) {
	all := Options{Container: -1, Coding: 5, Mode: -1, Most: -1, Pattern: "(", Template: "$"}
	check(t, "all", "\x1F\x8B", all, "", wrongIn(InOptions, api.ErrOption, 0))
	all.Container = TarGzip
	check(t, "all but the container", "", all, "", wrongIn(InOptions, api.ErrOption, 1))
	all.Coding = coding.Latin1
	check(t, "the mode and what is behind it", "", all, "", wrongIn(InOptions, api.ErrOption, 2))
	all.Mode = Replace
	check(t, "most and what is behind it", "", all, "", wrongIn(InOptions, api.ErrOption, 3))
	all.Most = api.MaxOut
	check(t, "the pattern and what is behind it", "", all, "", wrongIn(InPattern, api.ErrGroup, 0))
	all.Pattern = "(?:(?:a{64}){64}){64}"
	check(t, "a great pattern and what is behind it", "", all, "", wrongIn(InPattern, api.ErrBig, 0))
	all.Pattern = "a"
	check(t, "the template and what is behind it", "", all, "", wrongIn(InTemplate, api.ErrTemplate, 0))
	all.Template = ""
	check(t, "the blob", "", all, "", wrongIn(InBlob, api.ErrMagic, 0))

	for _, n := range []int{-1, -2, 5, 6, math.MinInt, math.MaxInt} {
		check(t, "a container", "a", over("a").inside(n), "", wrongIn(InOptions, api.ErrOption, 0))
		check(t, "a coding", "a", over("a").coded(n), "", wrongIn(InOptions, api.ErrOption, 1))
		check(t, "a mode", "a", over("a").by(n), "", wrongIn(InOptions, api.ErrOption, 2))
	}
	for _, n := range []int{-1, api.MaxOut + 1, math.MinInt, math.MaxInt} {
		check(t, "most", "a", over("a").most(n), "", wrongIn(InOptions, api.ErrOption, 3))
	}
	for n := range 5 {
		if _, fault := Run("", over("a").inside(n)); fault.Member == InOptions {
			t.Errorf("container %d: %v", n, fault)
		}
		if _, fault := Run("a", over("a").coded(n)); fault != (Fault{}) {
			t.Errorf("coding %d: %v", n, fault)
		}
		if _, fault := Run("a", over("a").by(n)); fault != (Fault{}) {
			t.Errorf("mode %d: %v", n, fault)
		}
	}
	check(t, "the greatest most", "a", over("a").most(api.MaxOut), "1:a\n", Fault{})
}

func TestFaultsOfPatternsAndTemplates(t *testing.T) {
	long := strings.Repeat("a", api.MaxPattern)
	for _, c := range []struct {
		pattern string
		want    Fault
	}{
		{long, Fault{}},
		{long + "a", wrongIn(InPattern, api.ErrLong, 0)},
		{"ab\xFF", wrongIn(InPattern, api.ErrText, 2)},
		{"ab)", wrongIn(InPattern, api.ErrGroup, 2)},
		{"a**", wrongIn(InPattern, api.ErrRepeat, 2)},
		{"a[z-a]", wrongIn(InPattern, api.ErrRange, 2)},
		{`ab\p{Nope}`, wrongIn(InPattern, api.ErrClass, 2)},
		{`a\q`, wrongIn(InPattern, api.ErrToken, 1)},
		{strings.Repeat("(", api.MaxNest+1), wrongIn(InPattern, api.ErrNest, api.MaxNest)},
		{"(?:(?:(?:a{64}){64}){64}){64}", wrongIn(InPattern, api.ErrBig, 0)},
		{"(?:\u00E4{64}){64}", wrongIn(InPattern, api.ErrBig, 0)}, // as a tree it isn't too big
		{"(?:\u00E4{64}){63}", Fault{}},
	} {
		check(t, "a pattern", "b", over(c.pattern), "", c.want)
	}
	const named = "(?P<n>b)"
	longest := strings.Repeat("x", api.MaxTemplate)
	for _, c := range []struct {
		template string
		told     string
		want     Fault
	}{
		{"<${n}${1}$0>", "a<bbb>", Fault{}},
		{longest, "a" + longest, Fault{}},
		{longest + "x", "", wrongIn(InTemplate, api.ErrLong, 0)},
		{"ab$", "", wrongIn(InTemplate, api.ErrTemplate, 2)},
		{"$1$2", "", wrongIn(InTemplate, api.ErrTemplate, 2)},
		{"$$${m}", "", wrongIn(InTemplate, api.ErrTemplate, 2)},
	} {
		check(t, "a template", "ab", over(named).replacing(c.template), c.told, c.want)
		for _, mode := range []int{Plain, Objects, Count, Each} {
			got, fault := Run("ab", over(named).replacing(c.template).by(mode))
			if want, _ := Run("ab", over(named).by(mode)); got != want || got == "" || fault != (Fault{}) {
				t.Errorf("a template where none is asked: %q %v, want %q", got, fault, want)
			}
		}
	}
}

// TestFaultsOfMembers: the first that is met, member by member, and what was told ahead of it.
func TestFaultsOfMembers(t *testing.T) {
	files := func(data ...string) string {
		var l []tape.File
		for _, d := range data {
			l = append(l, file("n", d))
		}
		return archived(t, l...)
	}
	archive := over("a").inside(Tar).strict()
	check(t, "in the first", files("aa\xFF", "a"), archive, "", wrongIn(0, api.ErrText, 2))
	check(t, "in the second", files("a", "\xFF", "a"), archive, "1:a\n", wrongIn(1, api.ErrText, 0))
	check(t, "in the last", files("a", "", "a", "a\n\xE2\x82"), archive, "1:a\n1:a\n", wrongIn(3, api.ErrText, 2))
	check(t, "not strict", files("a", "a\xFF", "a"), over("a").inside(Tar), "1:a\n1:a\uFFFD\n1:a\n", Fault{})
	check(t, "behind a mark", files("\uFEFFa\xFF"), archive, "", wrongIn(0, api.ErrText, 4))
	check(t, "half a unit", files("a\x00", "a\x00b"), archive.coded(coding.Little), "1:a\n", wrongIn(1, api.ErrText, 2))
	check(t, "by its mark", files("\xFF\xFEa\x00\x00\xD8", "a"), archive.coded(coding.Auto), "", wrongIn(0, api.ErrText, 4))
	check(t, "numbers are those of the files alone", archived(t, tape.File{Name: "d", Kind: '5'}, file("n", "a"), tape.File{Name: "d", Kind: '5'}, file("n", "\xFF")), archive, "1:a\n", wrongIn(1, api.ErrText, 0))

	// Each member is told in four bytes.
	same := files("a", "a", "a")
	for most, want := range []string{"", "", "", "", "1:a\n", "1:a\n", "1:a\n", "1:a\n", "1:a\n1:a\n", "1:a\n1:a\n", "1:a\n1:a\n", "1:a\n1:a\n"} {
		check(t, "too long", same, archive.most(most), want, wrongIn(len(want)/4, api.ErrLong, 0))
	}
	check(t, "just as long", same, archive.most(12), "1:a\n1:a\n1:a\n", Fault{})
	check(t, "too long behind nothing", files("b", "", "a"), archive.most(3), "", wrongIn(2, api.ErrLong, 0))
	check(t, "nothing is never too long", files("b", "", "c"), archive.most(0), "", Fault{})

	check(t, "too long ahead of what is bad", files("a", "\xFF"), archive.most(3), "", wrongIn(0, api.ErrLong, 0))
	check(t, "bad, and too long", files("a", "a\xFF"), archive.most(4), "1:a\n", wrongIn(1, api.ErrText, 1))

	for _, c := range []struct {
		mode int
		told string
	}{
		{Plain, "n:1:xa\n"}, {Objects, `{"name":"n","line":1,"text":"xa","spans":[[1,2]]}` + "\n"}, {Replace, "x<a>"}, {Count, "n:1\n"}, {Each, "n:1:a\n"},
	} {
		o := over("a").inside(Tar).named().replacing("<$0>").by(c.mode)
		check(t, "just as long", files("xa"), o.most(len(c.told)), c.told, Fault{})
		check(t, "by a byte too long", files("xa"), o.most(len(c.told)-1), "", wrongIn(0, api.ErrLong, 0))
		check(t, "by a byte too long, behind another", files("xa", "xa"), o.most(2*len(c.told)-1), c.told, wrongIn(1, api.ErrLong, 0))
		check(t, "just as long, behind another", files("xa", "xa"), o.most(2*len(c.told)), c.told+c.told, Fault{})
	}
	check(t, "raw", "a\xFF", over("a").strict(), "", wrongIn(0, api.ErrText, 1))
	check(t, "packed: its own bytes' place", packed(t, gz.Part{Data: "ab"}, gz.Part{Data: "c\xFF"}), over("a").inside(Gzip).strict(), "", wrongIn(0, api.ErrText, 3))
	check(t, "unpacked just as long", packed(t, gz.Part{Data: "abcd"}), over("a").inside(Gzip).by(Count).most(4), "1\n", Fault{})
	if got, fault := Run(packed(t, gz.Part{Data: "abcd"}), over("a").inside(Gzip).by(Count).most(3)); got != "" || fault.Code != api.ErrLong || fault.Member != InBlob {
		t.Errorf("unpacked too long: %q %v", got, fault)
	}
}

// TestNothingToTell: no members, empty ones, and nothing found.
func TestNothingToTell(t *testing.T) {
	for _, c := range []struct {
		what, blob string
		o          Options
		want       string
	}{
		{"no members, counted", archived(t), over("a").inside(Tar).by(Count), ""},
		{"no members", "", over("").inside(Tar).by(Each), ""},
		{"nothing", "", over("a"), ""},
		{"nothing, counted", "", over("a").by(Count), "0\n"},
		{"nothing, inverted", "", over("a").invert(), ""},
		{"nothing, replaced", "", over("a").replacing("x"), ""},
		{"a text without lines has no matches line by line", "", over("").by(Each), ""},
		{"as a whole it has one", "", over("").by(Each).multi(), "0:\n"},
		{"that no line is touched by", "", over("").multi(), ""},
		{"but replaced it is", "", over("").replacing("x").multi(), "x"},
		{"line by line it isn't", "", over("").replacing("x"), ""},
		{"a mark alone", "\uFEFF", over("").by(Count).multi(), "0\n"},
		{"nothing found", "b\n", over("a").by(Objects), ""},
		{"nothing found, each", "b\n", over("a").by(Each).named(), ""},
		{"nothing found, counted", "b\n", over("a").by(Count).named(), ":0\n"},
		{"nothing found, replaced", "b\n", over("a").replacing("x"), "b\n"},
	} {
		check(t, c.what, c.blob, c.o, c.want, Fault{})
	}
}

// TestLineByLine: each line by itself, or the text as a whole.
func TestLineByLine(t *testing.T) {
	const text = "ab\n\nba\nb" // the lines 0 to 2, 3 to 3, 4 to 6, 7 to 8
	for _, c := range []struct {
		what, pattern      string
		byLine, whole      string // Each
		replaced, together string
	}{
		{"a word", "a", "0:a\n5:a\n", "0:a\n5:a\n", "<a|>b\n\nb<a|>\nb", "<a|>b\n\nb<a|>\nb"},
		{"a group", "(b)", "1:b\n4:b\n7:b\n", "1:b\n4:b\n7:b\n", "a<b|b>\n\n<b|b>a\n<b|b>", "a<b|b>\n\n<b|b>a\n<b|b>"},
		{"a group that takes nothing", "a(x)?", "0:a\n5:a\n", "0:a\n5:a\n", "<a|>b\n\nb<a|>\nb", "<a|>b\n\nb<a|>\nb"},
		{"a beginning", "^b", "4:b\n7:b\n", "", "ab\n\n<b|>a\n<b|>", text},
		{"the text's beginning", `\Ab`, "4:b\n7:b\n", "", "ab\n\n<b|>a\n<b|>", text},
		{"an end", "b$", "1:b\n7:b\n", "7:b\n", "a<b|>\n\nba\n<b|>", "ab\n\nba\n<b|>"},
		{"the text's end", `(a)\z`, "5:a\n", "", "ab\n\nb<a|a>\nb", text},
		{"lines' borders", "(?m)^(b|)$", "3:\n7:b\n", "3:\n7:b\n", "ab\n<|>\nba\n<b|b>", "ab\n<|>\nba\n<b|b>"},
		{"nothing", "x*", "0:\n1:\n2:\n3:\n4:\n5:\n6:\n7:\n8:\n", "0:\n1:\n2:\n3:\n4:\n5:\n6:\n7:\n8:\n", "<|>a<|>b<|>\n<|>\n<|>b<|>a<|>\n<|>b<|>", "<|>a<|>b<|>\n<|>\n<|>b<|>a<|>\n<|>b<|>"},
		{"a newline", `b\n`, "", "1:b\n\n", text, "a<b\n|>\nba\nb"},
		{"over lines", `b\s*(b)`, "", "1:b\n\nb\n", text, "a<b\n\nb|b>a\nb"},
		{"as much as there is", `(?s).+`, "0:ab\n4:ba\n7:b\n", "0:" + text + "\n", "<ab|>\n\n<ba|>\n<b|>", "<" + text + "|>"},
		{"all but newlines", `.*`, "0:ab\n3:\n4:ba\n7:b\n", "0:ab\n3:\n4:ba\n7:b\n", "<ab|>\n<|>\n<ba|>\n<b|>", "<ab|>\n<|>\n<ba|>\n<b|>"},
	} {
		check(t, c.what, text, over(c.pattern).by(Each), c.byLine, Fault{})
		check(t, c.what+", as a whole", text, over(c.pattern).by(Each).multi(), c.whole, Fault{})
		template := "<$0|>"
		if strings.Contains(c.pattern, "(b") || strings.Contains(c.pattern, "(a)") || strings.Contains(c.pattern, "(x)") {
			template = "<$0|$1>"
		}
		check(t, c.what+", replaced", text, over(c.pattern).replacing(template), c.replaced, Fault{})
		check(t, c.what+", as a whole, replaced", text, over(c.pattern).replacing(template).multi(), c.together, Fault{})
	}
	check(t, "a last newline is no line's", "a\n", over("$").by(Each), "1:\n", Fault{})
	check(t, "as a whole its end is one", "a\n", over("$").by(Each).multi(), "2:\n", Fault{})
	check(t, "which is in the last line", "a\n", over("$").by(Objects).multi(), `{"name":"","line":1,"text":"a","spans":[[2,2]]}`+"\n", Fault{})
	check(t, "a return is the line's own", "a\r\nb\r\n", over(`a\r$`).by(Each), "0:a\r\n", Fault{})
}

func TestModes(t *testing.T) {
	blob := archived(t, file("f", "xay\nb\n\nba\n"), file("g:\"", "c"))
	o := over("a").inside(Tar)
	for _, c := range []struct {
		what string
		o    Options
		want string
	}{
		{"lines", o, "1:xay\n4:ba\n"},
		{"lines, inverted", o.invert(), "2:b\n3:\n1:c\n"},
		{"lines, named", o.named(), "f:1:xay\nf:4:ba\n"},
		{"lines, inverted, named", o.named().invert(), "f:2:b\nf:3:\ng:\":1:c\n"},
		{"objects", o.by(Objects), `{"name":"f","line":1,"text":"xay","spans":[[1,2]]}` + "\n" + `{"name":"f","line":4,"text":"ba","spans":[[1,2]]}` + "\n"},
		{"objects, inverted, named", o.by(Objects).invert().named(), `{"name":"f","line":2,"text":"b","spans":[]}` + "\n" + `{"name":"f","line":3,"text":"","spans":[]}` + "\n" + `{"name":"g:\"","line":1,"text":"c","spans":[]}` + "\n"},
		{"counts", o.by(Count), "2\n0\n"},
		{"counts, named", o.by(Count).named(), "f:2\ng:\":0\n"},
		{"counts, inverted", o.by(Count).invert(), "2\n1\n"},
		{"matches", o.by(Each), "1:a\n8:a\n"},
		{"matches, named", o.by(Each).named(), "f:1:a\nf:8:a\n"},
		{"matches are told, inverted or not", o.by(Each).invert(), "1:a\n8:a\n"},
		{"replaced", o.replacing("$0$0"), "xaay\nb\n\nbaa\nc"},
		{"replaced, inverted or not, named or not", o.replacing("").invert().named(), "xy\nb\n\nb\nc"},
		{"lines are told once", over("[abxy]").inside(Tar), "1:xay\n2:b\n4:ba\n"},
		{"their matches all", over("[ab]").inside(Tar).by(Objects), `{"name":"f","line":1,"text":"xay","spans":[[1,2]]}` + "\n" + `{"name":"f","line":2,"text":"b","spans":[[0,1]]}` + "\n" + `{"name":"f","line":4,"text":"ba","spans":[[0,1],[1,2]]}` + "\n"},
		{"over lines, inverted", over(`b\n\nb`).inside(Tar).multi().invert().named(), "f:1:xay\ng:\":1:c\n"},
		{"over lines, counted", over(`b\n\nb`).inside(Tar).multi().by(Count), "3\n0\n"},
		{"over lines, as objects", over(`(?s)y.*a`).inside(Tar).multi().by(Objects), `{"name":"f","line":1,"text":"xay","spans":[[2,9]]}` + "\n" +
			`{"name":"f","line":2,"text":"b","spans":[]}` + "\n" + `{"name":"f","line":3,"text":"","spans":[]}` + "\n" + `{"name":"f","line":4,"text":"ba","spans":[]}` + "\n"},
	} {
		check(t, c.what, blob, c.o, c.want, Fault{})
	}
}

func TestFlags(t *testing.T) {
	for _, c := range []struct {
		pattern string
		f       syntax.Flags
		want    string
	}{
		{"A", syntax.Flags{}, ""},
		{"A", syntax.Flags{Fold: true}, "0:a\n2:a\n"},
		{"^a", syntax.Flags{}, "0:a\n"},
		{"^a", syntax.Flags{Lines: true}, "0:a\n2:a\n"},
		{"a.a", syntax.Flags{}, ""},
		{"a.a", syntax.Flags{Dot: true}, "0:a\na\n"},
		{"b+", syntax.Flags{}, "3:bb\n"},
		{"b+", syntax.Flags{Lazy: true}, "3:b\n4:b\n"},
		{"(?-i)A|B", syntax.Flags{Fold: true}, ""},
	} {
		check(t, c.pattern, "a\nabb", over(c.pattern).flagged(c.f).by(Each).multi(), c.want, Fault{})
	}
}

// TestCodings: whatever the coding, the text is its scalars in UTF-8, and places are of that.
func TestCodings(t *testing.T) {
	runes := []int{0xE4, 'a', '\n', 0x1F600, 'a', 0xFF}
	each, lines := "2:a\n8:a\n", "1:\u00E4a\n2:\U0001F600a\u00FF\n"
	for _, mark := range []bool{false, true} {
		for _, n := range []int{coding.UTF8, coding.Little, coding.Big} {
			data, _ := coding.Encode(runes, n, mark)
			check(t, "each", data, over("a").coded(n).strict().by(Each), each, Fault{})
			check(t, "lines", data, over("a").coded(n).strict(), lines, Fault{})
			check(t, "replaced", data, over("^").coded(n).strict().replacing(">"), ">\u00E4a\n>\U0001F600a\u00FF", Fault{})
			if mark || n == coding.UTF8 {
				check(t, "sniffed", data, over("a").coded(coding.Auto).strict().by(Each), each, Fault{})
			}
			if mark {
				check(t, "two marks", data[:markSize(n)]+data, over(`\x{FEFF}`).coded(n).strict().by(Each), "0:\uFEFF\n", Fault{})
			}
		}
	}
	check(t, "Latin-1", "\xE4a\n\xFFa", over("a").coded(coding.Latin1).strict().by(Each), "2:a\n6:a\n", Fault{})
	check(t, "Latin-1 has no mark", "\xEF\xBB\xBFa", over("^...a").coded(coding.Latin1).by(Each), "0:\u00EF\u00BB\u00BFa\n", Fault{})
	check(t, "Latin-1's newlines", "a\x0A\x85a", over("^a").coded(coding.Latin1).by(Each), "0:a\n", Fault{})
	check(t, "another's mark", "\xFF\xFEa", over("a").by(Each), "6:a\n", Fault{})
	check(t, "another's mark, strict", "\xFF\xFEa", over("a").strict(), "", wrongIn(0, api.ErrText, 0))
	check(t, "what stands for the bad is found", "a\xFF\xE2\x82b", over(`\x{FFFD}+`).by(Each), "1:\uFFFD\uFFFD\n", Fault{})
	check(t, "a newline of two bytes", "a\x00\n\x00\n\nb\x00", over("b").coded(coding.Little), "2:\u0A0Ab\n", Fault{})

	// Each member by its own mark.
	little, _ := coding.Encode(runes, coding.Little, true)
	big, _ := coding.Encode(runes, coding.Big, true)
	eight, _ := coding.Encode(runes, coding.UTF8, false)
	blob := archived(t, file("1", little), file("2", big), file("3", eight))
	check(t, "each by its own", blob, over("a").coded(coding.Auto).inside(Tar).strict().named().by(Each), "1:2:a\n1:8:a\n2:2:a\n2:8:a\n3:2:a\n3:8:a\n", Fault{})
}

func markSize(n int) int {
	mark, _ := coding.Encode(nil, n, true)
	return len(mark)
}

// TestContainers: what is told is the same, however it is packed; but for the name.
func TestContainers(t *testing.T) {
	const text = "xay\nb\na"
	archive := archived(t, file("f", text))
	for _, c := range []struct {
		blob      string
		container int
		name      string
	}{
		{text, Raw, ""}, {text, AutoBlob, ""},
		{packed(t, gz.Part{Name: "p", Data: text[:2]}, gz.Part{Name: "q", Data: text[2:]}), Gzip, "p"},
		{packed(t, gz.Part{Name: "p", Data: text[:2]}, gz.Part{Name: "q", Data: text[2:]}), AutoBlob, "p"},
		{archive, Tar, "f"}, {archive, AutoBlob, "f"},
		{packed(t, gz.Part{Name: "p", Data: archive}), TarGzip, "f"},
		{packed(t, gz.Part{Name: "p", Data: archive}), AutoBlob, "f"},
	} {
		o := over("a").inside(c.container)
		check(t, "lines", c.blob, o, "1:xay\n3:a\n", Fault{})
		check(t, "named", c.blob, o.named(), c.name+":1:xay\n"+c.name+":3:a\n", Fault{})
		check(t, "objects", c.blob, o.by(Objects), `{"name":"`+c.name+`","line":1,"text":"xay","spans":[[1,2]]}`+"\n"+`{"name":"`+c.name+`","line":3,"text":"a","spans":[[0,1]]}`+"\n", Fault{})
		check(t, "replaced", c.blob, o.replacing("-"), "x-y\nb\n-", Fault{})
	}
	check(t, "a packed archive, unpacked alone", packed(t, gz.Part{Data: archive}), over("ustar").inside(Gzip).by(Each), "257:ustar\n", Fault{})
}

// TestManyMembers: as many as there may be, one behind the other.
func TestManyMembers(t *testing.T) {
	l := slices.Repeat([]tape.File{file("n", "a\nb\n")}, api.MaxMembers)
	blob := archived(t, l...)
	check(t, "all", blob, over("b").inside(AutoBlob).most(api.MaxOut).named(), strings.Repeat("n:2:b\n", api.MaxMembers), Fault{})
	check(t, "up to the last", blob, over("b").inside(AutoBlob).most(6*api.MaxMembers-1).named(), strings.Repeat("n:2:b\n", api.MaxMembers-1), wrongIn(api.MaxMembers-1, api.ErrLong, 0))
}

// TestLongTexts: many lines, many matches, much to tell.
func TestLongTexts(t *testing.T) {
	const count = api.MaxOut / 16
	text := strings.Repeat("a\n", count)
	for _, e := range []find.Engine{{}, {Lazy: true, Words: true}} {
		for _, multi := range []bool{false, true} {
			o := over("a").most(4 * count)
			o.Engine, o.Multi = e, multi
			if got, fault := Run(text, o.by(Count)); got != "65536\n" || fault != (Fault{}) {
				t.Errorf("%+v: %q %v", o, got, fault)
			}
			if got, fault := Run(text, o.replacing("bcd")); got != strings.Repeat("bcd\n", count) || fault != (Fault{}) {
				t.Errorf("%+v: %d bytes, %v", o, len(got), fault)
			}
			if got, fault := Run(text, o.replacing("bcde")); got != "" || fault != (wrongIn(0, api.ErrLong, 0)) {
				t.Errorf("%+v: %d bytes, %v", o, len(got), fault)
			}
			if got, fault := Run(text, o); got != "" || fault != (wrongIn(0, api.ErrLong, 0)) {
				t.Errorf("%+v: %d bytes, %v", o, len(got), fault)
			}
		}
	}
	longer := strings.Repeat("b\n", api.MaxOut) + "a" // longer than what may be unpacked or told
	if got, fault := Run(longer, over("a").most(9)); got != "" || fault != (wrongIn(0, api.ErrLong, 0)) {
		t.Errorf("%q %v", got, fault)
	}
	if got, fault := Run(longer, over("a").most(10)); got != "1048577:a\n" || fault != (Fault{}) {
		t.Errorf("%q %v", got, fault)
	}
}
