package json

import (
	"fmt"
	"reflect"
	"runtime"
	"slices"
	"strings"
	"testing"

	"ferret/api"
)

var right api.Fault

func wrong(at int) api.Fault { return api.Fault{Code: api.ErrToken, At: at} }

func nested(at int) api.Fault { return api.Fault{Code: api.ErrNest, At: at} }

func bad(at int) api.Fault { return api.Fault{Code: api.ErrText, At: at} }

func number(text string) Value { return Value{Kind: Number, Text: text} }

func says(text string) Value { return Value{Kind: Text, Text: text} }

func list(kids ...Value) Value { return Value{Kind: List, Kids: kids} }

func object(keys []string, kids ...Value) Value { return Value{Kind: Object, Keys: keys, Kids: kids} }

var (
	null  = Value{Kind: Null}
	no    = Value{Kind: False}
	yes   = Value{Kind: True}
	one   = number("1")
	empty = Value{}
)

// alike: an empty list is the same as none.
func alike(a, b Value) bool {
	return a.Kind == b.Kind && a.Text == b.Text && slices.Equal(a.Keys, b.Keys) && slices.EqualFunc(a.Kids, b.Kids, alike)
}

func TestKindsHaveTheirNumbers(t *testing.T) {
	if got := [...]int{Null, False, True, Number, Text, List, Object}; got != [...]int{0, 1, 2, 3, 4, 5, 6} {
		t.Error(got)
	}
}

func TestQuoteByHand(t *testing.T) {
	for _, c := range []struct{ text, want string }{
		{"", `""`},
		{"a\n\x01", `"a\n\u0001"`},
		{"a", `"a"`},
		{`"\/`, `"\"\\/"`},
		{"\b\t\n\f\r", `"\b\t\n\f\r"`},
		{"\x00\x01\x07\x0B\x0E\x0F\x10\x1A\x1B\x1F", `"\u0000\u0001\u0007\u000b\u000e\u000f\u0010\u001a\u001b\u001f"`},
		{" !#'()[]{}<>&~\x7F", "\" !#'()[]{}<>&~\x7F\""},
		{"\u0080\u009F\u00A0\u00E4\u07FF\u0800", "\"\u0080\u009F\u00A0\u00E4\u07FF\u0800\""},
		{"\u2028\u2029\uD7FF\uE000\uFFFE\uFFFF\U00010000\U0010FFFF", "\"\u2028\u2029\uD7FF\uE000\uFFFE\uFFFF\U00010000\U0010FFFF\""},
		{"\uFFFD", "\"\uFFFD\""},
		// A mark isn't passed over, wherever it is.
		{"\uFEFF", "\"\uFEFF\""},
		{"\uFEFFa\uFEFF", "\"\uFEFFa\uFEFF\""},
		{"\uFEFF\uFEFF", "\"\uFEFF\uFEFF\""},
		{"\xFF\xFEa\x00", "\"\uFFFD\uFFFDa\\u0000\""},
		// What is bad: as many bytes as could begin one.
		{"\x80", "\"\uFFFD\""},
		{"\xFF\"", "\"\uFFFD\\\"\""},
		{"a\xC3", "\"a\uFFFD\""},
		{"\xC3\n", "\"\uFFFD\\n\""},
		{"\xE2\x82", "\"\uFFFD\""},
		{"\xE2\x82x", "\"\uFFFDx\""},
		{"\xF0\x9F\x98\xF0\x9F\x98\x80", "\"\uFFFD\U0001F600\""},
		{"\xC0\xAF", "\"\uFFFD\uFFFD\""},
		{"\xED\xA0\x80", "\"\uFFFD\uFFFD\uFFFD\""},
		{"\xF4\x90\x80\x80", "\"\uFFFD\uFFFD\uFFFD\uFFFD\""},
		{"\xEF\xBB", "\"\uFFFD\""},
		{"\xEF\xBBa", "\"\uFFFDa\""},
	} {
		if got := Quote(c.text); got != c.want {
			t.Errorf("%q: %q, want %q", c.text, got, c.want)
		}
		if model := quoteByWords(c.text); model != c.want {
			t.Errorf("%q: the model has %q", c.text, model)
		}
	}
}

func TestParseByHand(t *testing.T) {
	for _, c := range []struct {
		text string
		want Value
	}{
		{"null", null}, {"false", no}, {"true", yes},
		{" \t\n\r null \t\n\r ", null},
		{"\n1\n", one},

		{"0", number("0")}, {"-0", number("-0")}, {"7", number("7")}, {"10", number("10")}, {"-12", number("-12")},
		{"0.0", number("0.0")}, {"-0.50", number("-0.50")}, {"1.05", number("1.05")},
		{"0e0", number("0e0")}, {"1E5", number("1E5")}, {"1e+05", number("1e+05")}, {"1E-007", number("1E-007")},
		{"-10.010e-10", number("-10.010e-10")}, {"1e999", number("1e999")},
		{"123456789012345678901234567890", number("123456789012345678901234567890")},

		{`""`, says("")}, {`"a"`, says("a")}, {"\" a\x7F\u00E4\uFEFF\U0010FFFF\"", says(" a\x7F\u00E4\uFEFF\U0010FFFF")},
		{`"\"\\\/\b\f\n\r\t"`, says("\"\\/\b\f\n\r\t")},
		{`"/'"`, says("/'")},
		{`"\u0000\u001f\u0022\u005c"`, says("\x00\x1F\"\\")},
		{`"\u00e4\u00E4\uabcd\uABCD\uFeFf"`, says("\u00E4\u00E4\uABCD\uABCD\uFEFF")},
		{`"\uFEFF"`, says("\uFEFF")}, {`"\ufeff\ufeffa"`, says("\uFEFF\uFEFFa")}, {`"\ufffe\uffff"`, says("\uFFFE\uFFFF")},
		{`"\u00411"`, says("A1")}, {`"\u0041\u0042"`, says("AB")}, {`"a\u0041b\u0042c"`, says("aAbBc")},

		// Two that make one, and those that make none.
		{`"\ud83d\ude00"`, says("\U0001F600")}, {`"\uD83D\uDE00"`, says("\U0001F600")},
		{`"\ud800\udc00\udbff\udfff"`, says("\U00010000\U0010FFFF")},
		{`"\ud83d"`, says("\uFFFD")}, {`"\ude00"`, says("\uFFFD")}, {`"\ud800\udbff"`, says("\uFFFD\uFFFD")}, {`"\udc00\udfff"`, says("\uFFFD\uFFFD")},
		{`"\ude00\ud83d"`, says("\uFFFD\uFFFD")},
		{`"\ud83d\ud83d\ude00"`, says("\uFFFD\U0001F600")}, {`"\ud83d\ude00\ude00"`, says("\U0001F600\uFFFD")},
		{`"\ud83d\u0041"`, says("\uFFFDA")}, {`"\ud83da\ude00"`, says("\uFFFDa\uFFFD")}, {`"\ud83d\n\ude00"`, says("\uFFFD\n\uFFFD")},
		{`"\ud83d\\ude00"`, says("\uFFFD\\ude00")}, {`"\ud83d\ufffd"`, says("\uFFFD\uFFFD")},
		{`"\ud7ff\ue000"`, says("\uD7FF\uE000")}, {`"\ud83d\ue000"`, says("\uFFFD\uE000")}, {`"\ud7ff\udc00"`, says("\uD7FF\uFFFD")},

		{"[]", list()}, {" [ ] ", list()}, {"[1]", list(one)}, {"[null,false,true]", list(null, no, yes)},
		{" [ 1 , \"a\" , [ ] , { } ] ", list(one, says("a"), list(), object(nil))},
		{"[[[1]],[2]]", list(list(list(one)), list(number("2")))},
		{"{}", object(nil)}, {"{\n}", object(nil)},
		{`{"a":1}`, object([]string{"a"}, one)},
		{" { \"a\"\t:\r1 ,\n\"b\" : [ 1 ] } ", object([]string{"a", "b"}, one, list(one))},
		{`{"b":1,"a":{"c":null}}`, object([]string{"b", "a"}, one, object([]string{"c"}, null))},
		// Keys stand as they come, more than once and empty too.
		{`{"a":1,"a":null,"":true,"\u0061":false}`, object([]string{"a", "a", "", "a"}, one, null, yes, no)},
		{`{"\ud83d\ude00\n":"\n"}`, object([]string{"\U0001F600\n"}, says("\n"))},
	} {
		got, fault := Parse(c.text)
		if fault != right || !alike(got, c.want) {
			t.Errorf("%q: %v %v, want %v", c.text, got, fault, c.want)
		}
		if model := valueByLibrary(t, c.text); !alike(model, c.want) {
			t.Errorf("%q: the library has %v", c.text, model)
		}
		if model := faultByWords(c.text); model != right {
			t.Errorf("%q: the model has %v", c.text, model)
		}
	}
}

func TestFaultsByHand(t *testing.T) {
	for _, c := range []struct {
		text  string
		fault api.Fault
	}{
		{"", wrong(0)}, {" ", wrong(1)}, {"\n\n", wrong(2)},
		{"a", wrong(0)}, {" a", wrong(1)}, {"\x00", wrong(0)}, {"\v1", wrong(0)}, {"1\f", wrong(1)}, {"\u00A01", wrong(0)}, {"/**/1", wrong(0)}, {"'a'", wrong(0)},
		{"\uFEFF1", wrong(0)}, {"1\uFEFF", wrong(1)}, {"\uFEFF", wrong(0)},

		{"n", wrong(1)}, {"nul", wrong(3)}, {"nulL", wrong(3)}, {"Null", wrong(0)}, {"nulll", wrong(4)}, {"n ull", wrong(1)},
		{"t", wrong(1)}, {"tru", wrong(3)}, {"truE", wrong(3)}, {"True", wrong(0)}, {"true1", wrong(4)}, {"truefalse", wrong(4)},
		{"f", wrong(1)}, {"fals", wrong(4)}, {"falsy", wrong(4)}, {"False", wrong(0)}, {"false\"", wrong(5)},
		{"NaN", wrong(0)}, {"Infinity", wrong(0)}, {"-Infinity", wrong(1)},

		{"-", wrong(1)}, {"--1", wrong(1)}, {"- 1", wrong(1)}, {"+1", wrong(0)}, {".5", wrong(0)}, {"-.5", wrong(1)},
		{"00", wrong(1)}, {"01", wrong(1)}, {"-01", wrong(2)}, {"0x1", wrong(1)}, {"1a", wrong(1)}, {"1 2", wrong(2)}, {"1,", wrong(1)},
		{"1.", wrong(2)}, {"1.a", wrong(2)}, {"1..2", wrong(2)}, {"1.5.", wrong(3)}, {"1.e5", wrong(2)}, {"1 .5", wrong(2)},
		{"1e", wrong(2)}, {"1E", wrong(2)}, {"1e+", wrong(3)}, {"1e-", wrong(3)}, {"1e+-1", wrong(3)}, {"1e1.5", wrong(3)}, {"1e1e", wrong(3)}, {"1e 1", wrong(2)}, {"1ee", wrong(2)},
		{"1_000", wrong(1)}, {"\u0661", wrong(0)}, {"1\u0661", wrong(1)},

		{`"`, wrong(1)}, {`"a`, wrong(2)}, {`"a"b"`, wrong(3)}, {`"a" "b"`, wrong(4)}, {"\"\n\"", wrong(1)}, {"\"a\x00\"", wrong(2)}, {"\"\x1F\"", wrong(1)}, {"\"\t\"", wrong(1)},
		{`"\`, wrong(2)}, {`"\"`, wrong(3)}, {`"\x"`, wrong(2)}, {`"\'"`, wrong(2)}, {`"\B"`, wrong(2)}, {`"\v"`, wrong(2)}, {`"\0"`, wrong(2)}, {"\"\\\n\"", wrong(2)}, {"\"\\\u00E4\"", wrong(2)}, {`"\U0041"`, wrong(2)},
		{`"\u`, wrong(3)}, {`"\u"`, wrong(3)}, {`"\u0`, wrong(4)}, {`"\u004"`, wrong(6)}, {`"\u004g"`, wrong(6)}, {`"\u00 1"`, wrong(5)}, {`"\u+041"`, wrong(3)}, {`"\u{41}"`, wrong(3)},
		{`"\u00G0"`, wrong(5)}, {`"\u@000"`, wrong(3)}, {"\"\\u`000\"", wrong(3)}, {`"\u/000"`, wrong(3)}, {`"\u:000"`, wrong(3)},
		{`"\ud83d\`, wrong(8)}, {`"\ud83d\u`, wrong(9)}, {`"\ud83d\x"`, wrong(8)}, {`"\ud83d\ude0"`, wrong(12)},

		{"[", wrong(1)}, {"[ ", wrong(2)}, {"]", wrong(0)}, {"[,", wrong(1)}, {"[,]", wrong(1)}, {"[1", wrong(2)}, {"[1 ", wrong(3)}, {"[1,", wrong(3)}, {"[1,]", wrong(3)}, {"[1,,2]", wrong(3)}, {"[1 2]", wrong(3)},
		{"[1}", wrong(2)}, {"[}", wrong(1)}, {"[]]", wrong(2)}, {"[] []", wrong(3)}, {"[1:2]", wrong(2)}, {"[01]", wrong(2)}, {"[nul]", wrong(4)}, {"[\"a]", wrong(4)}, {"[1;2]", wrong(2)},
		{"{", wrong(1)}, {"{ ", wrong(2)}, {"}", wrong(0)}, {"{1", wrong(1)}, {"{a:1}", wrong(1)}, {"{,}", wrong(1)}, {"{:1}", wrong(1)}, {`{"a"`, wrong(4)}, {`{"a"}`, wrong(4)}, {`{"a" 1}`, wrong(5)}, {`{"a",1}`, wrong(4)}, {`{"a":`, wrong(5)}, {`{"a":}`, wrong(5)}, {`{"a"::1}`, wrong(5)},
		{`{"a":1`, wrong(6)}, {`{"a":1]`, wrong(6)}, {`{"a":1,`, wrong(7)}, {`{"a":1,}`, wrong(7)}, {`{"a":1,1`, wrong(7)}, {`{"a":1 "b":2}`, wrong(7)}, {`{"a":1}}`, wrong(7)}, {`{null:1}`, wrong(1)}, {`{{}:1}`, wrong(1)}, {`{[`, wrong(1)}, {`{]`, wrong(1)}, {`{"a\x":1}`, wrong(4)},

		// What isn't UTF-8 is told ahead of all that.
		{"\xFF", bad(0)}, {"\"\xFF\"", bad(1)}, {"\"a\xE2\x82\"", bad(2)}, {"\"\xC3", bad(1)}, {"\xED\xA0\x80", bad(0)}, {"\x80\xFF", bad(0)}, {"\xEF\xBB", bad(0)},
		{"xyz\xFF", bad(3)}, {"[1,]\xC0\x80", bad(4)}, {"\uFEFF\xFF", bad(3)}, {"1 \xF0\x9F\x98", bad(2)}, {"\xFF\xFE1\x00", bad(0)},
		{strings.Repeat("[", api.MaxNest+1) + "\xFF", bad(api.MaxNest + 1)},
	} {
		if got, fault := Parse(c.text); fault != c.fault || !alike(got, empty) {
			t.Errorf("%q: %v %v, want %v", c.text, got, fault, c.fault)
		}
		if model := faultByWords(c.text); model != c.fault {
			t.Errorf("%q: the model has %v", c.text, model)
		}
	}
}

func TestNests(t *testing.T) {
	const most = api.MaxNest
	open := strings.Repeat("[", most)
	shut := strings.Repeat("]", most)
	objects := strings.Repeat(`{"a":`, most)
	behind := strings.Repeat("}", most)
	for _, c := range []struct {
		text  string
		fault api.Fault
	}{
		{open + shut, right},
		{open + "1" + shut, right},
		{open + `"[[{{"` + shut, right},
		{open + "[" + shut + "]", nested(most)},
		{open + "{}" + shut, nested(most)},
		{open + "[", nested(most)},
		{open + "[x", nested(most)}, // told ahead of what stands behind it
		{open + " [", nested(most + 1)},
		{open + "1,[", nested(most + 2)},
		{open + "1[", wrong(most + 1)}, // nothing goes on there so
		{open + "x[", wrong(most)},
		{open + "}", wrong(most)},
		{open[1:] + "{[]}" + shut[1:], wrong(most)},
		{open[1:] + "{\"\":[]}" + shut[1:], nested(most + 3)},
		{open[1:] + "{{", wrong(most)},
		{objects + "1" + behind, right},
		{objects + "{}" + behind, nested(len(objects))},
		{objects + "[]" + behind, nested(len(objects))},
		{objects + "[", nested(len(objects))},
		{strings.Repeat("[", 1<<20), nested(most)},
		{strings.Repeat(`{"":`, 1<<18), nested(4 * most)},
		// Side by side they may be many.
		{"[" + strings.Repeat("[],{},", 100) + "[]]", right},
		{"[" + open[1:] + shut[1:] + "," + open[1:] + shut[1:] + "]", right},
		{"[" + open[1:] + shut[1:] + "," + open + shut + "]", nested(2*most + most - 1)},
	} {
		got, fault := Parse(c.text)
		if fault != c.fault || fault != right && !alike(got, empty) {
			t.Errorf("%.80q: %v, want %v", c.text, fault, c.fault)
		}
		if model := faultByWords(c.text); model != c.fault {
			t.Errorf("%.80q: the model has %v", c.text, model)
		}
	}
}

func TestLongTexts(t *testing.T) {
	long := api.Fault{Code: api.ErrLong}
	const most = api.MaxOut
	in := func(ahead, part string, count int, behind string) string {
		return ahead + strings.Repeat(part, count) + behind
	}
	for _, c := range []struct {
		text  string
		fault api.Fault
	}{
		{in(`"`, "a", most-2, `"`), right},
		{in(`"`, "a", most-1, `"`), long},
		{in("", " ", most-1, "1"), right},
		{in("", " ", most, "1"), long},
		{in("", " ", most, ""), wrong(most)},
		{in("", " ", most+1, ""), long},
		{in("", "\xFF", most, ""), bad(0)},
		{in("", "\xFF", most+1, ""), long},
		{in("", "9", most, ""), right},
		{in("[0", ",0", most/2-2, "]"), right},
		{in("[0", ",0", most/2-2, ",]"), wrong(most - 1)},
		{in(`"`, `\u0041`, most/6-1, `"`), right},
		{in(`"`, `a\u0041`, most/7-1, `"`), right},
		{in(`"`, `\ud83d\ude00`, most/12-1, `"`), right},
		{in(`{"":1`, `,"":1`, most/5-2, "}"), right},
		{in(`"`, "a", most-1, ""), wrong(most)},
		{in("", "a", 3*most, ""), long},
	} {
		v, fault := Parse(c.text)
		if fault != c.fault || fault != right && !alike(v, empty) {
			t.Errorf("%.20q, %d bytes: %v, want %v", c.text, len(c.text), fault, c.fault)
		}
		if fault != right {
			continue
		}
		if again, fault := Parse(Show(v)); fault != right || !alike(again, v) {
			t.Errorf("%.20q, %d bytes: not the same again: %v", c.text, len(c.text), fault)
		}
	}
	if got := Quote(strings.Repeat("a\n", most)); got != `"`+strings.Repeat(`a\n`, most)+`"` {
		t.Errorf("%d bytes", len(got))
	}
}

func TestShowByHand(t *testing.T) {
	for _, c := range []struct {
		v    Value
		want string
	}{
		{null, "null"}, {no, "false"}, {yes, "true"}, {Value{}, "null"},
		{number("-1.50E+07"), "-1.50E+07"}, {number("0"), "0"},
		{number("any\n\"text"), "any\n\"text"}, {number(""), ""},
		{says(""), `""`}, {says("a\"\\/\n\x01\u00E4\xFF\uFEFF"), "\"a\\\"\\\\/\\n\\u0001\u00E4\uFFFD\uFEFF\""}, {says("\uFEFF"), "\"\uFEFF\""},
		{list(), "[]"}, {list(one), "[1]"}, {list(null, no, yes, says("a,b"), list(), object(nil)), `[null,false,true,"a,b",[],{}]`},
		{object(nil), "{}"},
		{object([]string{"a"}, one), `{"a":1}`},
		{object([]string{"b\n", "a", "b\n"}, one, list(object([]string{""}, null)), says("x")), `{"b\n":1,"a":[{"":null}],"b\n":"x"}`},
		{object([]string{"\xFF\""}, one), "{\"\uFFFD\\\"\":1}"},
		// Fewer keys than kids: the empty text stands for one.
		{object(nil, one), `{"":1}`},
		{object([]string{"a"}, one, null, yes), `{"a":1,"":null,"":true}`},
		// What a kind doesn't name isn't told.
		{Value{Kind: True, Text: "a", Keys: []string{"b"}, Kids: []Value{one}}, "true"},
		{Value{Text: "a", Kids: []Value{one}}, "null"},
		{Value{Kind: List, Text: "a", Keys: []string{"b"}, Kids: []Value{one}}, "[1]"},
		{Value{Kind: Object, Text: "a", Keys: []string{"b"}, Kids: []Value{one}}, `{"b":1}`},
		{Value{Kind: Text, Text: "a", Keys: []string{"b"}, Kids: []Value{one}}, `"a"`},
		{Value{Kind: Number, Text: "1", Keys: []string{"b"}, Kids: []Value{one}}, "1"},
	} {
		if got := Show(c.v); got != c.want {
			t.Errorf("%v: %s, want %s", c.v, got, c.want)
		}
	}
}

// TestShowWhatIsHandMade: deeper than Parse goes, with keys too many, and of kinds that there aren't.
func TestShowWhatIsHandMade(t *testing.T) {
	const deep = 1 << 16
	v := one
	for range deep {
		v = list(v)
	}
	if got := Show(v); got != strings.Repeat("[", deep)+"1"+strings.Repeat("]", deep) {
		t.Errorf("%d bytes", len(got))
	}
	if got := Show(object([]string{"a", "b"}, one)); got != `{"a":1}` {
		t.Error(got)
	}
	for _, kind := range []int{-1, 7, -1 << 63, 1<<63 - 1} {
		Show(list(Value{Kind: kind, Text: "a", Keys: []string{"b"}, Kids: []Value{one}}))
	}
}

func TestNothingIsChangedOrShared(t *testing.T) {
	const text = `{"a":[1,[2,3]],"b":{"c":"d","e":[4]}}`
	first, _ := Parse(text)
	second, _ := Parse(text)
	ahead := fmt.Sprint(first)
	if got := Show(first); got != text || fmt.Sprint(first) != ahead {
		t.Errorf("%s, %v", got, first)
	}
	var spoil func(v Value)
	spoil = func(v Value) {
		for i := range v.Keys[:cap(v.Keys)] {
			v.Keys[:cap(v.Keys)][i] = "other"
		}
		kids := slices.Clone(v.Kids)
		for i := range v.Kids[:cap(v.Kids)] {
			v.Kids[:cap(v.Kids)][i] = Value{Text: "other"}
		}
		for _, kid := range kids {
			spoil(kid)
		}
	}
	third := list(append(make([]Value, 0, 9), one, second)...)
	spoil(first)
	if fmt.Sprint(second) != ahead || Show(second) != text {
		t.Errorf("%v, want %s", second, ahead)
	}
	Show(third)
	if room := third.Kids[:9]; !reflect.DeepEqual(room[2:], make([]Value, 7)) {
		t.Errorf("%v", room)
	}
	// The lists within one answer are apart, too.
	outer, inner := second.Kids[0], second.Kids[0].Kids[1]
	_ = append(inner.Kids, one, one, one, one)
	_ = append(outer.Kids, one, one, one, one)
	if Show(second) != text {
		t.Errorf("%v", second)
	}
}

// TestMistakes: what isn't a text's fault isn't taken for one.
func TestMistakes(t *testing.T) {
	defer func() {
		if _, ok := recover().(runtime.Error); !ok {
			t.Error("no mistake was told")
		}
	}()
	var none *parser
	none.whole()
}
