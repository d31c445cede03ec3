package print

import (
	"math"
	"slices"
	"strconv"
	"strings"
	"testing"

	"ferret/api"
	"ferret/lines"
)

func span(from, to int) api.Span { return api.Span{From: from, To: to} }

// result of a text: its lines as layer 20 selects them.
func result(name string, named bool, text string, invert bool, found ...api.Span) Result {
	return Result{Name: name, Named: named, Text: text, Lines: lines.Select(text, found, invert), Found: found}
}

const (
	with    = false // lines in which something was found
	without = true
	named   = true
	bare    = false
)

func TestTextsByHand(t *testing.T) {
	const text = "xay\nb\n\nabc" // the lines 0 to 3, 4 to 5, 6 to 6, 7 to 10
	for _, c := range []struct {
		r                  Result
		plain, each, count string
	}{
		{result("n", bare, text, with, span(1, 2)), "1:xay\n", "1:a\n", "1\n"},
		{result("n", named, text, with, span(1, 2)), "n:1:xay\n", "n:1:a\n", "n:1\n"},
		{result("n", named, text, with, span(1, 2), span(4, 5)), "n:1:xay\nn:2:b\n", "n:1:a\nn:4:b\n", "n:2\n"},

		// Nothing is found, or there is nothing.
		{Result{}, "", "", "0\n"},
		{Result{Named: true}, "", "", ":0\n"},
		{result("n", bare, text, with), "", "", "0\n"},
		{result("n", named, text, with), "", "", "n:0\n"},
		{result("n", named, "", with, span(0, 0)), "", "n:0:\n", "n:0\n"},

		// Lines in which nothing was found are told, and what was found beside them.
		{result("n", bare, text, without, span(1, 2), span(7, 8)), "2:b\n3:\n", "1:a\n7:a\n", "2\n"},
		{result("n", named, text, without), "n:1:xay\nn:2:b\nn:3:\nn:4:abc\n", "", "n:4\n"},

		// Several matches in a line, empty ones, and one over several lines.
		{result("", bare, text, with, span(7, 8), span(8, 9), span(9, 10)), "4:abc\n", "7:a\n8:b\n9:c\n", "1\n"},
		{result("", bare, text, with, span(0, 0), span(6, 6), span(10, 10)), "1:xay\n3:\n4:abc\n", "0:\n6:\n10:\n", "3\n"},
		{result("f", named, text, with, span(2, 5)), "f:1:xay\nf:2:b\n", "f:2:y\nb\n", "f:2\n"},
		{result("f", named, text, with, span(0, 10)), "f:1:xay\nf:2:b\nf:3:\nf:4:abc\n", "f:0:xay\nb\n\nabc\n", "f:4\n"},
		{result("", bare, "a\n", with, span(1, 2)), "1:a\n", "1:\n\n", "1\n"},

		// Names and bytes stand as they are.
		{result("", named, "a", with, span(0, 1)), ":1:a\n", ":0:a\n", ":1\n"},
		{result("a:b\n\"\xFF", named, "a", with, span(0, 1)), "a:b\n\"\xFF:1:a\n", "a:b\n\"\xFF:0:a\n", "a:b\n\"\xFF:1\n"},
		{result("n", bare, "\xFF\xFE\"\\\r\x00\u00E4\n", with, span(1, 3)), "1:\xFF\xFE\"\\\r\x00\u00E4\n", "1:\xFE\"\n", "1\n"},
	} {
		if got := c.r.Plain(); got != c.plain {
			t.Errorf("%v: Plain %q, want %q", c.r, got, c.plain)
		}
		if got := c.r.Each(); got != c.each {
			t.Errorf("%v: Each %q, want %q", c.r, got, c.each)
		}
		if got := c.r.Count(); got != c.count {
			t.Errorf("%v: Count %q, want %q", c.r, got, c.count)
		}
	}
}

func TestNumbersAreDecimal(t *testing.T) {
	const count = 1234
	text := strings.Repeat("\n", count-1) + "a"
	r := result("n", bare, text, with, span(count-1, count))
	if got := r.Plain(); got != "1234:a\n" {
		t.Error(got)
	}
	if got := r.Each(); got != "1233:a\n" {
		t.Error(got)
	}
	if got := r.Objects(); got != `{"name":"n","line":1234,"text":"a","spans":[[0,1]]}`+"\n" {
		t.Error(got)
	}
	if got := result("n", bare, text, without).Count(); got != "1234\n" {
		t.Error(got)
	}
}

func TestObjectsByHand(t *testing.T) {
	const text = "xay\nxay\n\nabc" // the lines 0 to 3, 4 to 7, 8 to 8, 9 to 12
	for _, c := range []struct {
		r    Result
		want []string
	}{
		{result("a", bare, text, with, span(5, 6)), []string{`{"name":"a","line":2,"text":"xay","spans":[[1,2]]}`}},
		{result("a", named, text, with, span(5, 6)), []string{`{"name":"a","line":2,"text":"xay","spans":[[1,2]]}`}},
		{result("", named, text, with, span(0, 1), span(9, 10)), []string{`{"name":"","line":1,"text":"xay","spans":[[0,1]]}`, `{"name":"","line":4,"text":"abc","spans":[[0,1]]}`}},

		{Result{}, nil},
		{Result{Name: "n", Named: true}, nil},
		{result("n", bare, text, with), nil},
		{result("n", bare, "", with, span(0, 0)), nil},

		{result("n", bare, text, without, span(0, 1), span(8, 12)), []string{`{"name":"n","line":2,"text":"xay","spans":[]}`}},
		{result("n", bare, text, without, span(0, 8), span(9, 9)), []string{`{"name":"n","line":3,"text":"","spans":[]}`}},

		// Several in a line, empty ones, one at its newline, and one behind the last newline.
		{result("n", bare, text, with, span(9, 10), span(10, 10), span(11, 12), span(12, 12)), []string{`{"name":"n","line":4,"text":"abc","spans":[[0,1],[1,1],[2,3],[3,3]]}`}},
		{result("n", bare, text, with, span(8, 8)), []string{`{"name":"n","line":3,"text":"","spans":[[0,0]]}`}},
		{result("n", bare, text, with, span(7, 8)), []string{`{"name":"n","line":2,"text":"xay","spans":[[3,4]]}`}},
		{result("n", bare, "ab\n", with, span(3, 3)), []string{`{"name":"n","line":1,"text":"ab","spans":[[3,3]]}`}},

		// One that goes on in further lines: it is told of the first alone, and leaves it.
		{result("n", bare, text, with, span(2, 12)), []string{
			`{"name":"n","line":1,"text":"xay","spans":[[2,12]]}`,
			`{"name":"n","line":2,"text":"xay","spans":[]}`,
			`{"name":"n","line":3,"text":"","spans":[]}`,
			`{"name":"n","line":4,"text":"abc","spans":[]}`}},
		{result("n", bare, text, with, span(6, 10), span(10, 11)), []string{
			`{"name":"n","line":2,"text":"xay","spans":[[2,6]]}`,
			`{"name":"n","line":3,"text":"","spans":[]}`,
			`{"name":"n","line":4,"text":"abc","spans":[[1,2]]}`}},

		// Names and lines are quoted; the places are still those of the bytes.
		{result("a\"\\\n\x01\xFF", bare, "b\t\"\xFF\xE2\x82\u00E4\r\n", with, span(6, 8)), []string{
			`{"name":"a\"\\\n\u0001` + "\uFFFD" + `","line":1,"text":"b\t\"` + "\uFFFD\uFFFD\u00E4" + `\r","spans":[[6,8]]}`}},
		{result("\uFEFF", bare, "\uFEFFa", with, span(3, 4)), []string{`{"name":"` + "\uFEFF" + `","line":1,"text":"` + "\uFEFFa" + `","spans":[[3,4]]}`}},
	} {
		want := ""
		for _, line := range c.want {
			want += line + "\n"
		}
		if got := c.r.Objects(); got != want {
			t.Errorf("%v: %q, want %q", c.r, got, want)
		}
	}
}

func TestReadByHand(t *testing.T) {
	const most = "999999999999999999"
	type answer struct {
		name   string
		number int
		text   string
		spans  []api.Span
	}
	for _, c := range []struct {
		line string
		want answer
	}{
		{`{"name":"a","line":2,"text":"xay","spans":[[1,2]]}`, answer{"a", 2, "xay", []api.Span{span(1, 2)}}},
		{`{"name":"a","line":2,"text":"xay","spans":[[1,2]]}` + "\n", answer{"a", 2, "xay", []api.Span{span(1, 2)}}},
		{"\t\r\n { \"name\" : \"a\" ,\n\"line\" :2 , \"text\": \"xay\" , \"spans\" : [ [ 1 , 2 ] ] } \n\n", answer{"a", 2, "xay", []api.Span{span(1, 2)}}},
		{`{"name":"","line":0,"text":"","spans":[]}`, answer{"", 0, "", nil}},
		{`{"name":"","line":0,"text":"","spans":[[0,0]]}`, answer{"", 0, "", []api.Span{span(0, 0)}}},
		{`{"name":"\n\u00e4","line":10,"text":"\"\\\/\ud83d\ude00\ud83d","spans":[[10,20],[3,4],[0,7]]}`, answer{"\n\u00E4", 10, "\"\\/\U0001F600\uFFFD", []api.Span{span(10, 20), span(3, 4), span(0, 7)}}},
		{`{"name":"` + "\uFEFF" + `","line":1,"text":"` + "\uFEFF\uFFFD" + `","spans":[]}`, answer{"\uFEFF", 1, "\uFEFF\uFFFD", nil}},
		{`{"name":"{","line":1,"text":"null","spans":[]}`, answer{"{", 1, "null", nil}},
		// Keys are what they say, however they are written.
		{`{"n\u0061me":"a","\u006cine":2,"te\u0078t":"b","span\u0073":[]}`, answer{"a", 2, "b", nil}},
		// Places needn't be those of the text.
		{`{"name":"a","line":2,"text":"","spans":[[7,3],[99,100]]}`, answer{"a", 2, "", []api.Span{span(7, 3), span(99, 100)}}},
		// As many digits as may be.
		{`{"name":"a","line":` + most + `,"text":"","spans":[[` + most + `,` + most + `]]}`, answer{"a", 999999999999999999, "", []api.Span{span(999999999999999999, 999999999999999999)}}},
		{`{"name":"a","line":100000000000000000,"text":"","spans":[[123456789012345678,0]]}`, answer{"a", 100000000000000000, "", []api.Span{span(123456789012345678, 0)}}},
	} {
		name, number, text, spans, ok := Read(c.line)
		if !ok || name != c.want.name || number != c.want.number || text != c.want.text || !slices.Equal(spans, c.want.spans) {
			t.Errorf("%s: %q %d %q %v %v, want %v", c.line, name, number, text, spans, ok, c.want)
		}
	}
}

// refused: there must be nothing beside the false.
func refused(t *testing.T, line string) {
	t.Helper()
	name, number, text, spans, ok := Read(line)
	if ok || name != "" || number != 0 || text != "" || len(spans) > 0 {
		t.Errorf("%.80q: %q %d %.80q %v %v", line, name, number, text, spans, ok)
	}
}

func TestReadRefuses(t *testing.T) {
	for _, line := range []string{
		"", " ", "\n", "null", "true", "1", `"a"`, "[]", "{}", "{", "}", "[{}]",
		`["name","line","text","spans"]`, `["a",1,"b",[]]`,

		// Keys: too few, too many, twice, in another order, others.
		`{"name":"a"}`,
		`{"name":"a","line":1}`,
		`{"name":"a","line":1,"text":"b"}`,
		`{"line":1,"text":"b","spans":[]}`,
		`{"name":"a","text":"b","spans":[]}`,
		`{"name":"a","line":1,"spans":[]}`,
		`{"name":"a","line":1,"text":"b","spans":[],"":1}`,
		`{"name":"a","line":1,"text":"b","spans":[],"spans":[]}`,
		`{"name":"a","name":"a","line":1,"text":"b","spans":[]}`,
		`{"":"","name":"a","line":1,"text":"b","spans":[]}`,
		`{"line":1,"name":"a","text":"b","spans":[]}`,
		`{"name":"a","text":"b","line":1,"spans":[]}`,
		`{"name":"a","line":1,"spans":[],"text":"b"}`,
		`{"text":"a","line":1,"name":"b","spans":[]}`,
		`{"Name":"a","line":1,"text":"b","spans":[]}`,
		`{"name ":"a","line":1,"text":"b","spans":[]}`,
		`{"name":"a","lines":1,"text":"b","spans":[]}`,
		`{"name":"a","line":1,"":"b","spans":[]}`,
		`{"name":"a","line":1,"text":"b","span":[]}`,

		// Kinds.
		`{"name":null,"line":1,"text":"b","spans":[]}`,
		`{"name":1,"line":1,"text":"b","spans":[]}`,
		`{"name":["a"],"line":1,"text":"b","spans":[]}`,
		`{"name":"a","line":"1","text":"b","spans":[]}`,
		`{"name":"a","line":null,"text":"b","spans":[]}`,
		`{"name":"a","line":[1],"text":"b","spans":[]}`,
		`{"name":"a","line":true,"text":"b","spans":[]}`,
		`{"name":"a","line":1,"text":null,"spans":[]}`,
		`{"name":"a","line":1,"text":2,"spans":[]}`,
		`{"name":"a","line":1,"text":{},"spans":[]}`,
		`{"name":"a","line":1,"text":"b","spans":null}`,
		`{"name":"a","line":1,"text":"b","spans":{}}`,
		`{"name":"a","line":1,"text":"b","spans":{"a":[1,2]}}`,
		`{"name":"a","line":1,"text":"b","spans":""}`,
		`{"name":"a","line":1,"text":"b","spans":1}`,
		`{"name":"a","line":1,"text":"b","spans":[1,2]}`,
		`{"name":"a","line":1,"text":"b","spans":[[]]}`,
		`{"name":"a","line":1,"text":"b","spans":[[1]]}`,
		`{"name":"a","line":1,"text":"b","spans":[[1,2,3]]}`,
		`{"name":"a","line":1,"text":"b","spans":[[1,2],[]]}`,
		`{"name":"a","line":1,"text":"b","spans":[[1,2],[3,4,5]]}`,
		`{"name":"a","line":1,"text":"b","spans":[[1,2],null]}`,
		`{"name":"a","line":1,"text":"b","spans":[{"a":1,"b":2}]}`,
		`{"name":"a","line":1,"text":"b","spans":["12"]}`,
		`{"name":"a","line":1,"text":"b","spans":[["1",2]]}`,
		`{"name":"a","line":1,"text":"b","spans":[[1,"2"]]}`,
		`{"name":"a","line":1,"text":"b","spans":[[1,null]]}`,
		`{"name":"a","line":1,"text":"b","spans":[[[],2]]}`,
		`{"name":"a","line":1,"text":"b","spans":[[[1,2]]]}`,

		// What isn't JSON: bytes that aren't UTF-8, a mark, cut off, with something behind it.
		`{"name":"` + "\xFF" + `","line":1,"text":"b","spans":[]}`,
		`{"name":"a","line":1,"text":"b","spans":[]}` + "\xC3",
		"\uFEFF" + `{"name":"a","line":1,"text":"b","spans":[]}`,
		`{"name":"a","line":1,"text":"b","spans":[]`,
		`{"name":"a","line":1,"text":"b","spans":[]}}`,
		`{"name":"a","line":1,"text":"b","spans":[]}` + "\n" + `{"name":"a","line":2,"text":"b","spans":[]}`,
		`{"name":"a","line":1,"text":"b","spans":[],}`,
		`{"name":"a","line":1,"text":"b","spans":[[1,2],]}`,
		`{name:"a",line:1,text:"b",spans:[]}`,
		"{\"name\":\"a\nb\",\"line\":1,\"text\":\"b\",\"spans\":[]}",
		strings.Repeat("[", api.MaxNest+1),
	} {
		refused(t, line)
	}
}

// TestReadRefusesNumbers: in each of the places in which one stands.
func TestReadRefusesNumbers(t *testing.T) {
	places := []string{
		`{"name":"a","line":#,"text":"b","spans":[[1,2]]}`,
		`{"name":"a","line":1,"text":"b","spans":[[#,2]]}`,
		`{"name":"a","line":1,"text":"b","spans":[[1,#]]}`,
		`{"name":"a","line":1,"text":"b","spans":[[1,2],[3,4],[#,5]]}`,
	}
	for _, place := range places {
		for _, number := range []string{"0", "7", "10", "999999999999999999"} {
			if _, _, _, _, ok := Read(strings.Replace(place, "#", number, 1)); !ok {
				t.Errorf("%s is refused in %s", number, place)
			}
		}
		for _, number := range []string{
			"", "-", "-0", "-1", "+1", "00", "01", "07", "007", "1.0", "0.0", "1.5", "1.", ".5", "1e0", "0e0", "1E5", "1e+1", "10e-1", "-1.5E-7",
			"0x1", "1_0", "1 0", "1a", "NaN", "\u0661", "/", ":",
			"1000000000000000000", "9223372036854775807", "9223372036854775808", "18446744073709551617", "000000000000000001", strings.Repeat("9", 1000), "1" + strings.Repeat("0", 64),
		} {
			refused(t, strings.Replace(place, "#", number, 1))
		}
	}
}

func TestReadOfLongLines(t *testing.T) {
	const around = len(`{"name":"","line":1,"text":"","spans":[]}`)
	text := strings.Repeat("a", api.MaxOut-around)
	fits := result("", bare, text, with, span(0, 0))
	fits.Lines[0].Found = nil
	line := strings.TrimSuffix(fits.Objects(), "\n")
	if len(line) != api.MaxOut {
		t.Fatalf("%d bytes", len(line))
	}
	if name, number, got, spans, ok := Read(line); !ok || name != "" || number != 1 || got != text || len(spans) > 0 {
		t.Errorf("%d bytes: %v %d", len(line), ok, len(got))
	}
	refused(t, line+"\n")
	refused(t, " "+line)
	fits.Name = "a"
	refused(t, fits.Objects())
	refused(t, strings.Repeat(line, 2))

	many := `{"name":"a","line":1,"text":"","spans":[` + strings.Repeat("[1,2],", api.MaxOut/7) + `[3,4]]}`
	if _, _, _, spans, ok := Read(many); !ok || len(spans) != api.MaxOut/7+1 || spans[0] != span(1, 2) || spans[len(spans)-1] != span(3, 4) {
		t.Errorf("%v, %d spans", ok, len(spans))
	}
}

func TestNothingIsChangedOrShared(t *testing.T) {
	const text = "ab\ncd\nef"
	room := []api.Span{span(0, 1), span(1, 4), span(6, 6), span(-7, -7), span(77, 7)}
	r := result("n", named, text, with, room[:3]...)
	r.Lines = append(r.Lines, lines.Line{Number: 77})
	kept := slices.Clone(room)
	ahead := slices.Clone(r.Lines)
	var places [][]int
	for _, line := range r.Lines {
		places = append(places, slices.Clone(line.Found[:cap(line.Found)]))
	}
	r.Lines = r.Lines[:3]
	first := r.Plain() + r.Each() + r.Count() + r.Objects()
	if second := r.Plain() + r.Each() + r.Count() + r.Objects(); second != first {
		t.Errorf("%q, then %q", first, second)
	}
	if !slices.Equal(room, kept) || r.Name != "n" || !r.Named || r.Text != text {
		t.Errorf("changed: %v, %v", room, r)
	}
	for i, line := range r.Lines[:4] {
		if line.Number != ahead[i].Number || line.Span != ahead[i].Span || !slices.Equal(line.Found[:cap(line.Found)], places[i]) {
			t.Errorf("changed: %v, want %v", line, ahead[i])
		}
	}

	const line = `{"name":"a","line":1,"text":"b","spans":[[1,2],[3,4],[5,6]]}`
	_, _, _, one, _ := Read(line)
	_, _, _, two, _ := Read(line)
	clear(one[:cap(one)])
	if _, _, _, three, _ := Read(line); !slices.Equal(two, []api.Span{span(1, 2), span(3, 4), span(5, 6)}) || !slices.Equal(three, two) {
		t.Errorf("memory is shared: %v, %v", two, three)
	}
}

// TestHandMade: of lines and spans that don't lie within the text nothing is promised but that there is an answer.
func TestHandMade(t *testing.T) {
	numbers := []int{math.MinInt, math.MinInt + 1, -1, 0, 1, 2, 3, 4, math.MaxInt - 1, math.MaxInt}
	for _, text := range []string{"", "a", "a\nb"} {
		r := Result{Name: "n", Named: true, Text: text}
		for _, from := range numbers {
			for _, to := range numbers {
				r.Found = append(r.Found, span(from, to))
				r.Lines = append(r.Lines, lines.Line{Number: from, Span: span(from, to), Found: numbers})
			}
		}
		if got, want := r.Count(), "n:"+strconv.Itoa(len(numbers)*len(numbers))+"\n"; got != want {
			t.Error(got)
		}
		for _, told := range []string{r.Plain(), r.Each(), r.Objects()} {
			if strings.Count(told, "\n") < len(r.Lines) {
				t.Errorf("%q: %d bytes", text, len(told))
			}
		}
	}
}

// TestManyLines: so many that none may be told again for each other one.
func TestManyLines(t *testing.T) {
	const count = 1 << 17
	text := strings.Repeat("a\n", count)
	var found []api.Span
	for i := range count {
		found = append(found, span(2*i, 2*i+1))
	}
	r := result(strings.Repeat("n", 100), named, text, with, found...)
	for _, told := range []string{r.Plain(), r.Each(), r.Objects()} {
		if strings.Count(told, "\n") != count {
			t.Errorf("%d lines", strings.Count(told, "\n"))
		}
	}
	one := result("n", bare, strings.Repeat("a", 2*count), with, found...)
	if _, _, _, spans, ok := Read(one.Objects()[:api.MaxOut]); ok || len(spans) > 0 {
		t.Error("a line that is cut off was read")
	}
	if got := one.Objects(); strings.Count(got, "[") != count+1 || !strings.HasSuffix(got, ",["+strconv.Itoa(2*count-2)+","+strconv.Itoa(2*count-1)+"]]}\n") {
		t.Errorf("%d bytes", len(got))
	}
}
