package templ

import (
	"fmt"
	"math"
	"reflect"
	"runtime"
	"slices"
	"strings"
	"testing"

	"ferret/api"
)

func says(text string) Piece { return Piece{Text: text, Group: -1} }

func group(number int) Piece { return Piece{Group: number} }

// wrong: a template is wrong at a place.
func wrong(at int) api.Fault { return api.Fault{Code: api.ErrTemplate, At: at} }

var right api.Fault

// unnamed: the names of so many groups, which have none.
func unnamed(count int) []string { return make([]string, count) }

func TestParseByHand(t *testing.T) {
	named := []string{"", "n", "", "n_2", "1a", "7", "00000", "N"}
	for _, c := range []struct {
		text  string
		names []string
		want  []Piece
		fault api.Fault
	}{
		// Texts.
		{"", unnamed(1), nil, right},
		{"", nil, nil, right},
		{"a", nil, []Piece{says("a")}, right},
		{"a{1}b}{n}", named, []Piece{says("a{1}b}{n}")}, right},
		{"\\1\\$$", named, []Piece{says("\\1\\$")}, right},
		{"\x00\xFF\n\u00E4", nil, []Piece{says("\x00\xFF\n\u00E4")}, right},
		{"$$", nil, []Piece{says("$")}, right},
		{"$$$$", nil, []Piece{says("$$")}, right},
		{"a$$b", nil, []Piece{says("a$b")}, right},
		{"$$a$$$$b", nil, []Piece{says("$a$$b")}, right},
		{"$$1", named, []Piece{says("$1")}, right},
		{"$${n}", named, []Piece{says("${n}")}, right},

		// Numbers.
		{"<$1$$>", unnamed(2), []Piece{says("<"), group(1), says("$>")}, right},
		{"$0", unnamed(1), []Piece{group(0)}, right},
		{"${0}", unnamed(1), []Piece{group(0)}, right},
		{"$1", unnamed(2), []Piece{group(1)}, right},
		{"$1$1", unnamed(2), []Piece{group(1), group(1)}, right},
		{"$1${0}$1", unnamed(2), []Piece{group(1), group(0), group(1)}, right},
		{"$$$1", unnamed(2), []Piece{says("$"), group(1)}, right},
		{"$1$$", unnamed(2), []Piece{group(1), says("$")}, right},
		{"$1a", unnamed(2), []Piece{group(1), says("a")}, right},
		{"$1\xFF", unnamed(2), []Piece{group(1), says("\xFF")}, right},
		{"$1:", unnamed(2), []Piece{group(1), says(":")}, right},
		{"$1/", unnamed(2), []Piece{group(1), says("/")}, right},
		{"$1.5", unnamed(2), []Piece{group(1), says(".5")}, right},
		{"$1}", unnamed(2), []Piece{group(1), says("}")}, right},
		{"$01", unnamed(2), []Piece{group(1)}, right},
		{"$0001", unnamed(2), []Piece{group(1)}, right},
		{"$00001", unnamed(2), []Piece{group(0), says("1")}, right},
		{"$00012", unnamed(2), []Piece{group(1), says("2")}, right},
		{"$12", unnamed(13), []Piece{group(12)}, right},
		{"$12", unnamed(12), nil, wrong(0)}, // not the group 1, and 2
		{"$12345", unnamed(1235), []Piece{group(1234), says("5")}, right},
		{"$12345", unnamed(1234), nil, wrong(0)},
		{"$9999", unnamed(10000), []Piece{group(9999)}, right},
		{"$9999", unnamed(9999), nil, wrong(0)},
		{"${1}", unnamed(2), []Piece{group(1)}, right},
		{"${1}0", unnamed(2), []Piece{group(1), says("0")}, right},
		{"${0001}", unnamed(2), []Piece{group(1)}, right},
		{"${1234}5", unnamed(1235), []Piece{group(1234), says("5")}, right},
		{"${00001}", unnamed(2), nil, wrong(0)},
		{"${12345}", unnamed(12346), nil, wrong(0)},
		{"ab${2}", unnamed(2), nil, wrong(2)},
		{"ab$2", unnamed(2), nil, wrong(2)},
		{"$1$2$0", unnamed(2), nil, wrong(2)},
		{"$0", nil, nil, wrong(0)},
		{"${0}", nil, nil, wrong(0)},

		// Names.
		{"${n}", named, []Piece{group(1)}, right},
		{"${n}0", named, []Piece{group(1), says("0")}, right},
		{"a${n_2}b$4", named, []Piece{says("a"), group(3), says("b"), group(4)}, right},
		{"${1a}", named, []Piece{group(4)}, right},
		{"${N}${n}", named, []Piece{group(7), group(1)}, right},
		{"${n}}", named, []Piece{group(1), says("}")}, right},
		{"${m}", named, nil, wrong(0)},
		{"${n_}", named, nil, wrong(0)},
		{"${n_22}", named, nil, wrong(0)},
		{"$n", named, nil, wrong(0)},
		{"${ n}", named, nil, wrong(0)},
		{"${n }", named, nil, wrong(0)},
		{"${}", named, nil, wrong(0)}, // though groups without a name have the empty one
		{"${$n}", named, nil, wrong(0)},
		{"${${n}}", named, nil, wrong(0)},
		// Names of digits: up to four of them are a number.
		{"${00000}", named, []Piece{group(6)}, right},
		{"${7}", named, []Piece{group(7)}, right},
		{"${7}", named[:7], nil, wrong(0)},

		// A $ that begins nothing.
		{"$", named, nil, wrong(0)},
		{"a$", named, nil, wrong(1)},
		{"$$$", named, nil, wrong(2)},
		{"$1$", named, nil, wrong(2)},
		{"$ 1", named, nil, wrong(0)},
		{"$-1", named, nil, wrong(0)},
		{"$+1", named, nil, wrong(0)},
		{"${-1}", named, nil, wrong(0)},
		{"${+1}", named, nil, wrong(0)},
		{"${1 }", named, nil, wrong(0)},
		{"${0x1}", named, nil, wrong(0)},
		{"${1_0}", unnamed(99), nil, wrong(0)},
		{"$/", named, nil, wrong(0)},
		{"$:", named, nil, wrong(0)},
		{"$\x00", named, nil, wrong(0)},
		{"$\xFF", named, nil, wrong(0)},
		{"$\u0661", named, nil, wrong(0)},   // a digit, but none of these
		{"${\uFF11}", named, nil, wrong(0)}, // another one
		{"x${", named, nil, wrong(1)},
		{"x${1", named, nil, wrong(1)},
		{"x${n", named, nil, wrong(1)},
		{"${n$1}", named, nil, wrong(0)},
		{"$}", named, nil, wrong(0)},
		// The first one is told.
		{"ab$x$y", named, nil, wrong(2)},
		{"$1$99$x", named, nil, wrong(2)},
		{"$$$x$99", named, nil, wrong(2)},
	} {
		got, fault := Parse(c.text, c.names)
		if !slices.Equal(got, c.want) || fault != c.fault {
			t.Errorf("%q, %d names: %v %v, want %v %v", c.text, len(c.names), got, fault, c.want, c.fault)
		}
		if model, fault := parseByWords(c.text, c.names); !slices.Equal(model, c.want) || fault != c.fault {
			t.Errorf("%q, %d names: the model has %v %v", c.text, len(c.names), model, fault)
		}
	}
}

func TestParseOfLongOnes(t *testing.T) {
	long := api.Fault{Code: api.ErrLong}
	for _, c := range []struct {
		text  string
		fault api.Fault
	}{
		{strings.Repeat("a", api.MaxTemplate), right},
		{strings.Repeat("a", api.MaxTemplate+1), long},
		{strings.Repeat("$$", api.MaxTemplate/2), right},
		{strings.Repeat("$$", api.MaxTemplate/2) + "a", long},
		{strings.Repeat("$0", api.MaxTemplate/2), right},
		{strings.Repeat("$0", api.MaxTemplate/2) + "$", long},
		{strings.Repeat("\u00E4", api.MaxTemplate/2), right},
		{strings.Repeat("\u00E4", api.MaxTemplate/2+1), long}, // bytes are counted
		{"$x" + strings.Repeat("a", api.MaxTemplate-2), wrong(0)},
		{"$x" + strings.Repeat("a", api.MaxTemplate-1), long},
		{strings.Repeat("a", api.MaxTemplate-1) + "$", wrong(api.MaxTemplate - 1)},
		{"${" + strings.Repeat("a", api.MaxTemplate-2), wrong(0)},
		{strings.Repeat("a", 1<<20), long},
	} {
		l, fault := Parse(c.text, unnamed(1))
		if fault != c.fault || fault != right && len(l) != 0 {
			t.Errorf("%d bytes: %v, want %v", len(c.text), fault, c.fault)
		}
	}
	if l, _ := Parse(strings.Repeat("a$$", api.MaxTemplate/3), nil); len(l) != 1 || l[0] != says(strings.Repeat("a$", api.MaxTemplate/3)) {
		t.Errorf("%d pieces", len(l))
	}
	if l, _ := Parse(strings.Repeat("$0a", api.MaxTemplate/3), unnamed(1)); len(l) != api.MaxTemplate/3*2 {
		t.Errorf("%d pieces", len(l))
	}
}

func TestExpandByHand(t *testing.T) {
	all := []Piece{says("<"), group(1), says("|"), group(0), says(">")}
	for _, c := range []struct {
		l     []Piece
		text  string
		notes []int
		want  string
	}{
		{[]Piece{says("<"), group(1), says("$>")}, "ab", []int{0, 2, 1, 2}, "<b$>"},
		{all, "xaby", []int{1, 3, 2, 3}, "<b|ab>"},
		{all, "xaby", []int{1, 3, 2, 2}, "<|ab>"},
		{all, "xaby", []int{1, 3, -1, -1}, "<|ab>"},
		{all, "xaby", []int{1, 3}, "<|ab>"},
		{all, "xaby", []int{1, 3, 2}, "<|ab>"},
		{all, "xaby", []int{1}, "<|>"},
		{all, "xaby", nil, "<|>"},
		{all, "xaby", []int{0, 4, 0, 4}, "<xaby|xaby>"},
		{all, "xaby", []int{4, 4, 4, 4}, "<|>"},
		{all, "", []int{0, 0, 0, 0}, "<|>"},
		{[]Piece{group(2), group(1), group(2)}, "abc", []int{0, 3, 0, 1, 1, 3}, "bcabc"},
		{[]Piece{group(0)}, "\x00\xFF\n", []int{0, 3}, "\x00\xFF\n"},
		{[]Piece{group(0)}, "\u00E4", []int{1, 2}, "\xA4"},
		{[]Piece{says("$1")}, "abc", []int{0, 3, 0, 1}, "$1"},
		{nil, "abc", []int{0, 3, 0, 1}, ""},
		{[]Piece{says("a")}, "", nil, "a"},
		{[]Piece{group(math.MaxInt), group(math.MaxInt/2 + 1), group(2)}, "abc", []int{0, 3, 0, 1}, ""},
	} {
		if got := Expand(c.l, c.text, c.notes); got != c.want {
			t.Errorf("%v of %q, %v: %q, want %q", c.l, c.text, c.notes, got, c.want)
		}
		if model := expandByWords(c.l, c.text, c.notes); model != c.want {
			t.Errorf("%v of %q, %v: the model has %q", c.l, c.text, c.notes, model)
		}
	}
}

func TestReplaceByHand(t *testing.T) {
	l := []Piece{says("<"), group(1), says("$>")}
	for _, c := range []struct {
		text    string
		matches [][]int
		l       []Piece
		want    string
	}{
		{"abc", [][]int{{1, 2, 1, 2}}, l, "a<b$>c"},
		{"xabyab", [][]int{{1, 3, 2, 3}, {4, 6, 5, 6}}, l, "x<b$>y<b$>"},
		{"", nil, l, ""},
		{"abc", nil, l, "abc"},
		{"abc", nil, nil, "abc"},
		{"abc", [][]int{{0, 3}}, nil, ""},
		{"abc", [][]int{{1, 2}}, nil, "ac"},
		{"abc", [][]int{{0, 3}}, []Piece{group(0), group(0)}, "abcabc"},
		{"ab", [][]int{{0, 1}, {1, 2}}, []Piece{says("-")}, "--"},
		// Empty matches: at the ends, between, behind another one.
		{"", [][]int{{0, 0}}, []Piece{says("-")}, "-"},
		{"baac", [][]int{{0, 0}, {1, 3}, {4, 4}}, []Piece{says("<"), group(0), says(">")}, "<>b<aa>c<>"},
		{"ab", [][]int{{0, 0}, {1, 1}, {2, 2}}, []Piece{says("-")}, "-a-b-"},
		// A group that took nothing.
		{"ab", [][]int{{0, 1, 0, 1}, {1, 2, -1, -1}}, []Piece{group(1), says(".")}, "a.."},
		// What is put there isn't looked at again.
		{"aa", [][]int{{0, 1}, {1, 2}}, []Piece{says("aa$0"), group(0)}, "aa$0aaa$0a"},
		{"\xFFa\x00\u00E4", [][]int{{1, 2}}, []Piece{group(0), says("\xFE")}, "\xFFa\xFE\x00\u00E4"},
	} {
		size := len(c.want)
		for _, most := range []int{size, size + 1, math.MaxInt} {
			if got, ok := Replace(c.text, c.matches, c.l, most); !ok || got != c.want {
				t.Errorf("%q, %v, %v, %d: %q %v, want %q", c.text, c.matches, c.l, most, got, ok, c.want)
			}
		}
		for _, most := range []int{size - 1, size / 2, -1, math.MinInt, math.MinInt + 1} {
			if got, ok := Replace(c.text, c.matches, c.l, most); most < size && (ok || got != "") {
				t.Errorf("%q, %v, %v, %d: %q %v, want none", c.text, c.matches, c.l, most, got, ok)
			}
		}
	}
}

// TestReplaceStopsEarly: what is too long isn't made first.
func TestReplaceStopsEarly(t *testing.T) {
	text := strings.Repeat("a", 1<<20)
	matches := make([][]int, len(text))
	for i := range matches {
		matches[i] = []int{i, i + 1}
	}
	l, fault := Parse(strings.Repeat("$0", api.MaxTemplate/2), unnamed(1))
	if fault != right {
		t.Fatal(fault)
	}
	var ahead, behind runtime.MemStats
	runtime.ReadMemStats(&ahead)
	if got, ok := Replace(text, matches, l, 1<<20); ok || got != "" {
		t.Errorf("%d bytes, %v", len(got), ok)
	}
	runtime.ReadMemStats(&behind)
	if taken := behind.TotalAlloc - ahead.TotalAlloc; taken > 1<<25 {
		t.Errorf("%d bytes were taken", taken)
	}
	if got, ok := Replace(text, matches, l[:2], 1<<21); !ok || got != text+text {
		t.Errorf("%d bytes, %v", len(got), ok)
	}
	if got, ok := Replace(text, matches, l[:2], 1<<21-1); ok || got != "" {
		t.Errorf("%d bytes, %v", len(got), ok)
	}
}

// TestHandMade: nothing is promised of these, but that there is an answer.
func TestHandMade(t *testing.T) {
	odd := []int{math.MinInt, -2, -1, 0, 1, 2, 3, 4, math.MaxInt}
	l := []Piece{{}, {Text: "a"}, {Text: "", Group: -1}, {Text: "b", Group: -2}, {Group: math.MinInt}, {Group: 1}, {Group: math.MaxInt}}
	for _, a := range odd {
		for _, b := range odd {
			for _, c := range odd {
				for _, d := range odd {
					notes := []int{a, b, c, d}
					if got := Expand(l, "xyz", notes); got != expandByWords(l, "xyz", notes) {
						t.Fatalf("%v: %q", notes, got)
					}
					Replace("xyz", [][]int{notes, {c, d}, {a, d}, {a}, nil}, l, d)
				}
			}
		}
	}
}

func TestNothingIsChanged(t *testing.T) {
	names := append(make([]string, 0, 9), "", "n", "m")
	matches := [][]int{append(make([]int, 0, 9), 1, 2, 1, 2), append(make([]int, 0, 9), 3, 4, -1, -1)}
	l := append(make([]Piece, 0, 9), says("<"), group(1), says(">"))
	told := func() string { return fmt.Sprint(names[:9], matches[0][:9], matches[1][:9], l[:9]) }
	ahead := told()
	first, _ := Parse("a$$${n}b$2", names)
	second, _ := Parse("a$$${n}b$2", names)
	Replace("abcdef", matches, l, 99)
	Replace("abcdef", matches, l, 5)
	Expand(l, "abcdef", matches[0])
	if told() != ahead {
		t.Errorf("%s, but %s ahead", told(), ahead)
	}
	first[0].Text, first[1].Group = "other", 9
	if want := []Piece{says("a$"), group(1), says("b"), group(2)}; !reflect.DeepEqual(second, want) {
		t.Errorf("%v, want %v", second, want)
	}
}
