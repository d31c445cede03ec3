package args

import (
	"math"
	"slices"
	"strconv"
	"strings"
	"testing"

	"ferret/api"
	"ferret/coding"
	"ferret/find"
	"ferret/suite"
	"ferret/syntax"
	"ferret/tape"
)

func wordAt(at int) api.Fault { return api.Fault{Code: api.ErrWord, At: at} }

func checkParse(t *testing.T, l []string, o suite.Options, blob string, wrong api.Fault) {
	t.Helper()
	if got, bytes, fault := Parse(Pack(l)); got != o || bytes != blob || fault != wrong {
		t.Errorf("%.90q: %+v %.60q %v, want %+v %.60q %v", l, got, bytes, fault, o, blob, wrong)
	}
}

// checkWrong: a text in which a key is wrong tells nothing else.
func checkWrong(t *testing.T, at int, l ...string) {
	t.Helper()
	checkParse(t, l, suite.Options{}, "", wordAt(at))
}

// The keys of each kind, in the order in which they are shown.
var (
	numberKeys = []string{"container", "coding", "mode", "most", "states"}
	choiceKeys = []string{"strict", "invert", "multi", "named", "fold", "lines", "dot", "short", "lazy", "words"}
	textKeys   = []string{"pattern", "template", "blob"}
)

// withNumber, withYes and withText: what is asked for by one key alone.
func withNumber(key string, n int) suite.Options {
	return map[string]suite.Options{
		"container": {Container: n},
		"coding":    {Coding: n},
		"mode":      {Mode: n},
		"most":      {Most: n},
		"states":    {Engine: find.Engine{States: n}},
	}[key]
}

func withYes(key string) suite.Options {
	return map[string]suite.Options{
		"strict": {Strict: true},
		"invert": {Invert: true},
		"multi":  {Multi: true},
		"named":  {Named: true},
		"fold":   {Flags: syntax.Flags{Fold: true}},
		"lines":  {Flags: syntax.Flags{Lines: true}},
		"dot":    {Flags: syntax.Flags{Dot: true}},
		"short":  {Flags: syntax.Flags{Lazy: true}},
		"lazy":   {Engine: find.Engine{Lazy: true}},
		"words":  {Engine: find.Engine{Words: true}},
	}[key]
}

func withText(key, s string) (suite.Options, string) {
	switch key {
	case "pattern":
		return suite.Options{Pattern: s}, ""
	case "template":
		return suite.Options{Template: s}, ""
	}
	return suite.Options{}, s
}

func TestNumbers(t *testing.T) {
	const greatest = 999999999999999999
	for _, key := range numberKeys {
		for _, n := range []int{0, 1, 4, 9, 10, 42, 100, 1234567890, api.MaxOut, -1, -9, -10, -305, math.MaxInt32, math.MinInt32, 1 << 32, greatest - 1, greatest, -greatest} {
			checkParse(t, []string{key, strconv.Itoa(n)}, withNumber(key, n), "", api.Fault{})
		}
		for _, s := range []string{
			"", "-", "-0", "--1", "-01", "-00", "00", "01", "007", "000000000000000001", "+0", "+1", "1-", "1+", " 1", "1 ", "1\n", "\t1", "- 1", "1 2", "1,2", "1:", "1.0", "1.", "1e3", "0x1F", "0b1", "0o7", "1_000", "1_", "_1",
			"a", "1a", "a1", "A", "yes", "no", "\u0661", "\uFF11", "\u22121", "\xB2", "1\x00", "\x001", "Inf", "NaN",
			"1000000000000000000", "-1000000000000000000", "9223372036854775807", "-9223372036854775808", "9223372036854775808", "18446744073709551616", "18446744073709551617", "0000000000000000000",
			strings.Repeat("1", 1000), "-" + strings.Repeat("9", 1<<16),
		} {
			checkWrong(t, 0, key, s)
		}
	}
}

func TestChoices(t *testing.T) {
	for _, key := range choiceKeys {
		checkParse(t, []string{key, "yes"}, withYes(key), "", api.Fault{})
		checkParse(t, []string{key, "no"}, suite.Options{}, "", api.Fault{})
		for _, s := range []string{"", "Yes", "YES", "No", "NO", "y", "n", "ye", "yess", "yes ", " yes", "yes\n", "yes!", "yes\x00", "noo", "nope", " no", "no ", "n\u00F6", "0", "1", "true", "false", "yesno", key} {
			checkWrong(t, 0, key, s)
		}
	}
}

func TestTexts(t *testing.T) {
	for _, key := range textKeys {
		for _, s := range []string{"", "a", "yes", "0", ":", ",", "1:a,", "4:blob,1:a,", "blob", "\n", "\x00", "\xFF\xFE", "\u00E4\u4E2D\U0001F600", "(", "$", strings.Repeat("a", api.MaxPattern+1), strings.Repeat("\x1F\x8B", api.MaxOut)} {
			o, blob := withText(key, s)
			checkParse(t, []string{key, s}, o, blob, api.Fault{})
		}
	}
}

// whole: options and a blob of which nothing is zero, and their texts.
func whole() (suite.Options, string, []string) {
	o := suite.Options{
		Container: 1, Coding: 2, Mode: 3, Most: 99, Strict: true, Invert: true, Multi: true, Named: true,
		Flags:   syntax.Flags{Fold: true, Lines: true, Dot: true, Lazy: true},
		Engine:  find.Engine{Lazy: true, Words: true, States: -8},
		Pattern: "a:b", Template: "$0,",
	}
	return o, "\x00\n", []string{
		"container", "1", "coding", "2", "mode", "3", "most", "99", "states", "-8",
		"strict", "yes", "invert", "yes", "multi", "yes", "named", "yes", "fold", "yes", "lines", "yes", "dot", "yes", "short", "yes", "lazy", "yes", "words", "yes",
		"pattern", "a:b", "template", "$0,", "blob", "\x00\n",
	}
}

func TestKeysInAnyOrder(t *testing.T) {
	o, blob, l := whole()
	checkParse(t, nil, suite.Options{}, "", api.Fault{})
	checkParse(t, l, o, blob, api.Fault{})
	var back []string
	for i := len(l) - 2; i >= 0; i -= 2 {
		back = append(back, l[i], l[i+1])
	}
	checkParse(t, back, o, blob, api.Fault{})
	for i := 0; i < len(l); i += 2 { // each one first
		checkParse(t, slices.Concat(l[i:], l[:i]), o, blob, api.Fault{})
	}
	checkParse(t, []string{"blob", "pattern", "pattern", "blob", "template", "mode"}, suite.Options{Pattern: "blob", Template: "mode"}, "pattern", api.Fault{})
}

func TestWrongKeys(t *testing.T) {
	for _, key := range []string{
		"", " ", "x", "Mode", "MODE", "mode ", " mode", "mode\n", "mod", "modes", "mode\x00", "mode:", "container,", "flags", "engine", "options", "Container", "Flags.Fold", "Flags.Lazy", "Lazy",
		"greedy", "word", "line", "state", "templates", "patterns", "blobs", "bl\u00F6b", "\xFF", "0", "yes", "no", "1:a,",
	} {
		for _, value := range []string{"", "0", "1", "no", "yes", "mode"} {
			checkWrong(t, 0, key, value)
			checkWrong(t, 2, "blob", "a", key, value)
			checkWrong(t, 2, "blob", "a", key, value, "pattern", "b")
		}
		checkWrong(t, 0, key)
	}
}

// TestKeysTwice: whatever the values of the first and the second are, zero ones too.
func TestKeysTwice(t *testing.T) {
	values := map[string][]string{}
	for _, key := range numberKeys {
		values[key] = []string{"0", "1", "x"}
	}
	for _, key := range choiceKeys {
		values[key] = []string{"no", "yes", "x"}
	}
	for _, key := range textKeys {
		values[key] = []string{"", "1"}
	}
	for key, l := range values {
		for _, first := range l[:2] {
			for _, second := range l {
				checkWrong(t, 2, key, first, key, second)
				for other := range values {
					if other != key {
						checkWrong(t, 4, key, first, other, values[other][1], key, second)
						checkWrong(t, 4, other, values[other][0], key, first, key, second, other, "")
					}
				}
			}
			checkWrong(t, 2, key, first, key)
		}
	}
}

func TestValuesWanting(t *testing.T) {
	_, _, l := whole()
	for i := 0; i < len(l); i += 2 {
		checkWrong(t, 0, l[i])
		checkWrong(t, i, l[:i+1]...)
	}
	checkWrong(t, len(l), append(l, "mode")...)
	checkWrong(t, len(l), append(l, "")...)
}

// TestFirstWrongKey: the first is told, whatever is wrong with it and with those behind.
func TestFirstWrongKey(t *testing.T) {
	for _, c := range []struct {
		at int
		l  []string
	}{
		{0, []string{"x", "1", "y", "2"}},
		{0, []string{"mode", "x", "mode", "1"}},
		{0, []string{"mode", "mode", "1"}},
		{2, []string{"mode", "1", "1", "mode"}},
		{2, []string{"mode", "1", "dot", "maybe", "mode", "1"}},
		{2, []string{"mode", "1", "mode", "1", "dot", "maybe"}},
		{4, []string{"mode", "1", "blob", "mode", "mode", "1", "x"}},
		{4, []string{"dot", "no", "short", "no", "words", "", "most"}},
	} {
		checkWrong(t, c.at, c.l...)
	}
}

// TestPackedFirst: what isn't packed is told ahead of what is wrong with a key, at its place among the bytes.
func TestPackedFirst(t *testing.T) {
	for s, at := range map[string]int{
		"x":                     0,
		"mode=1":                0,
		"4:mode,1:1":            7,
		"1:x,1:y,z":             8,
		"4:mode,1:x,4:mode,1:":  18,
		"4:mode,01:1,":          7,
		"0:,0:,-1:,":            6,
		"4:blob,10000000:a,":    7,
		"4:mode,1:1,4:blob,2:a": 18,
	} {
		if o, blob, fault := Parse(s); o != (suite.Options{}) || blob != "" || fault != formAt(at) {
			t.Errorf("%q: %+v %q %v, want %d", s, o, blob, fault, at)
		}
		if told, fault := Run(s); told != "" || fault != formAt(at) {
			t.Errorf("%q: %q %v, want %d", s, told, fault, at)
		}
	}
}

func checkShow(t *testing.T, o suite.Options, blob string, want ...string) {
	t.Helper()
	if got := Show(o, blob); got != Pack(want) {
		t.Errorf("%+v %q: %q, want %q", o, blob, got, Pack(want))
	}
}

func TestShow(t *testing.T) {
	o, blob, l := whole()
	checkShow(t, o, blob, l...)
	checkShow(t, suite.Options{}, "")
	for _, key := range numberKeys {
		for _, n := range []int{1, -1, 10, -305, 999999999999999999, -999999999999999999} {
			checkShow(t, withNumber(key, n), "", key, strconv.Itoa(n))
		}
		checkShow(t, withNumber(key, 0), "a", "blob", "a")
	}
	for _, key := range choiceKeys {
		checkShow(t, withYes(key), "", key, "yes")
		checkShow(t, withYes(key), "no", key, "yes", "blob", "no")
	}
	for _, key := range textKeys {
		for _, s := range []string{"a", "0", "no", ":,", "\x00\xFF"} {
			o, blob := withText(key, s)
			checkShow(t, o, blob, key, s)
		}
	}
	checkShow(t, suite.Options{Most: 9, Template: "t", Pattern: "p", Strict: true, Engine: find.Engine{States: 4}}, "b", "most", "9", "states", "4", "strict", "yes", "pattern", "p", "template", "t", "blob", "b")
}

// TestShowBeyond: numbers and texts that Parse doesn't tell again.
func TestShowBeyond(t *testing.T) {
	for _, n := range []int{1000000000000000000, -1000000000000000000, math.MaxInt, math.MinInt} {
		for _, key := range numberKeys {
			checkShow(t, withNumber(key, n), "", key, strconv.Itoa(n))
			checkWrong(t, 0, key, strconv.Itoa(n))
		}
	}
	most := strings.Repeat("a", 9999999)
	over := most + "a"
	for _, c := range []struct {
		what    string
		o       suite.Options
		blob    string
		kept    []string
		further string
	}{
		{"a blob as long as may be", suite.Options{Mode: 1}, most, []string{"mode", "1", "blob", most}, ""},
		{"a pattern as long as may be", suite.Options{Pattern: most}, "b", []string{"pattern", most, "blob", "b"}, ""},
		{"a longer blob", suite.Options{Mode: 1}, over, []string{"mode", "1", "blob"}, "blob"},
		{"a longer pattern", suite.Options{Pattern: over, Template: "t"}, "b", []string{"pattern"}, "pattern"},
		{"a longer template", suite.Options{Pattern: "p", Template: over}, "b", []string{"pattern", "p", "template"}, "template"},
	} {
		s := Show(c.o, c.blob)
		if s != Pack(c.kept) {
			t.Errorf("%s: %d bytes, want %d", c.what, len(s), len(Pack(c.kept)))
		}
		o, blob, fault := Parse(s)
		if c.further == "" && (o != c.o || blob != c.blob || fault != (api.Fault{})) {
			t.Errorf("%s isn't told again: %v", c.what, fault)
		}
		if c.further != "" && fault != wordAt(len(c.kept)-1) {
			t.Errorf("%s: %v", c.what, fault)
		}
	}
}

func checkRun(t *testing.T, what string, l []string, want ...string) {
	t.Helper()
	if got, fault := Run(Pack(l)); got != Pack(want) || fault != (api.Fault{}) {
		t.Errorf("%s: %q %v, want %q", what, got, fault, Pack(want))
	}
}

func archive(t *testing.T, data ...string) string {
	t.Helper()
	var l []tape.File
	for _, d := range data {
		l = append(l, tape.File{Name: "n", Kind: '0', Size: len(d), Data: d})
	}
	blob, err := tape.Write(l)
	if err != api.OK {
		t.Fatal(err)
	}
	return blob
}

func TestRun(t *testing.T) {
	two := archive(t, "a\n", "ba\xFF")
	for _, c := range []struct {
		what string
		l    []string
		want []string
	}{
		{"nothing is asked", nil, []string{"", "0", "0", "0"}},
		{"lines", []string{"most", "99", "pattern", "a", "blob", "xay\nb"}, []string{"1:xay\n", "0", "0", "0"}},
		{"without room", []string{"pattern", "a", "blob", "xay\nb"}, []string{"", "2", "0", "0"}},
		{"inverted", []string{"most", "99", "pattern", "a", "blob", "xay\nb", "invert", "yes"}, []string{"2:b\n", "0", "0", "0"}},
		{"folded, each", []string{"most", "99", "pattern", "k", "fold", "yes", "mode", "4", "blob", "K\u212A"}, []string{"0:K\n1:\u212A\n", "0", "0", "0"}},
		{"replaced", []string{"most", "99", "pattern", "(b)", "template", "<$1$$>", "mode", "2", "blob", "abc"}, []string{"a<b$>c", "0", "0", "0"}},
		{"counted", []string{"most", "99", "pattern", "a", "mode", "3", "blob", "a\nb\na"}, []string{"2\n", "0", "0", "0"}},
		{"as a whole", []string{"most", "99", "pattern", "y\nb", "multi", "yes", "blob", "xay\nb"}, []string{"1:xay\n2:b\n", "0", "0", "0"}},
		{"short", []string{"most", "99", "pattern", "b+", "short", "yes", "mode", "4", "blob", "bb"}, []string{"0:b\n1:b\n", "0", "0", "0"}},
		{"by states", []string{"most", "99", "pattern", "b+", "lazy", "yes", "words", "yes", "states", "-1", "mode", "4", "blob", "bb"}, []string{"0:bb\n", "0", "0", "0"}},
		{"with a dot for all", []string{"most", "99", "pattern", "a.a", "multi", "yes", "dot", "yes", "mode", "4", "blob", "a\na"}, []string{"0:a\na\n", "0", "0", "0"}},
		{"with lines' borders", []string{"most", "99", "pattern", "^a", "multi", "yes", "lines", "yes", "mode", "4", "blob", "a\na"}, []string{"0:a\n2:a\n", "0", "0", "0"}},
		{"of a coding", []string{"most", "99", "pattern", "a", "coding", strconv.Itoa(coding.Big), "mode", "4", "blob", "\x00\xE4\x00a"}, []string{"2:a\n", "0", "0", "0"}},
		{"of an archive, named", []string{"most", "99", "pattern", "a", "named", "yes", "blob", two}, []string{"n:1:a\nn:1:ba\uFFFD\n", "0", "0", "0"}},

		{"a wrong container", []string{"container", "-1", "coding", "9", "pattern", "("}, []string{"", "28", "-1", "0"}},
		{"a wrong coding", []string{"coding", "5", "mode", "5"}, []string{"", "28", "-1", "1"}},
		{"a wrong mode", []string{"mode", "999999999999999999", "most", "-1"}, []string{"", "28", "-1", "2"}},
		{"a wrong most", []string{"most", "1048577"}, []string{"", "28", "-1", "3"}},
		{"a wrong pattern", []string{"pattern", "a{3,2}", "mode", "2", "template", "$"}, []string{"", "23", "-2", "1"}},
		{"a long pattern", []string{"pattern", strings.Repeat("a", api.MaxPattern+1)}, []string{"", "2", "-2", "0"}},
		{"a wrong template", []string{"pattern", "(a)", "mode", "2", "template", "ab$2"}, []string{"", "27", "-3", "2"}},
		{"a wrong blob", []string{"most", "99", "container", "2", "blob", "abc"}, []string{"", "12", "-4", "0"}},
		{"a blob cut off", []string{"most", "99", "container", "3", "blob", two[:513]}, []string{"", "3", "-4", "512"}},
		{"a wrong member", []string{"most", "99", "pattern", "a", "strict", "yes", "blob", two}, []string{"1:a\n", "17", "1", "2"}},
		{"a long member", []string{"most", "9", "pattern", "a", "blob", two}, []string{"1:a\n", "2", "1", "0"}},
	} {
		checkRun(t, c.what, c.l, c.want...)
	}
}

func TestRunOfWrongTexts(t *testing.T) {
	for _, c := range []struct {
		s    string
		want api.Fault
	}{
		{"x", formAt(0)},
		{"4:mode,1:0,x", formAt(11)},
		{"1:x,1:0,", wordAt(0)},
		{"4:mode,1:0,4:mode,1:0,", wordAt(2)},
		{"4:mode,1:0,4:blob,", wordAt(2)},
		{"7:pattern,1:(,4:most,2:-0,", wordAt(2)},
	} {
		if told, fault := Run(c.s); told != "" || fault != c.want {
			t.Errorf("%q: %q %v, want %v", c.s, told, fault, c.want)
		}
	}
}

// TestRunLongest: as much as may be told is told as one text.
func TestRunLongest(t *testing.T) {
	blob := strings.Repeat("a", api.MaxOut)
	l := []string{"container", "1", "mode", "2", "most", strconv.Itoa(api.MaxOut), "pattern", "x", "blob", blob}
	checkRun(t, "the most", l, blob, "0", "0", "0")
	l[9] += "a"
	checkRun(t, "by a byte too long", l, "", "2", "0", "0")
}
