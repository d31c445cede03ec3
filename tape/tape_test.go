package tape

import (
	"math/rand/v2"
	"regexp"
	"slices"
	"strconv"
	"strings"
	"testing"
)

func chance(seed uint64) *rand.Rand {
	return rand.New(rand.NewPCG(seed, 6))
}

// some: a text of so many of these bytes, at most.
func some(c *rand.Rand, letters string, most int) string {
	var b []byte
	for range c.IntN(most + 1) {
		b = append(b, letters[c.IntN(len(letters))])
	}
	return string(b)
}

// P6.1

func TestNumber(t *testing.T) {
	for _, x := range []struct {
		field string
		want  int
		ok    bool
	}{
		{"0000644\x00", 420, true},
		{"", 0, false},
		{" ", 0, true},
		{"\x00", 0, true},
		{"   \x00\x00  \x00", 0, true},
		{"0", 0, true},
		{"7", 7, true},
		{"8", 0, false},
		{"9", 0, false},
		{"/", 0, false},
		{"12345670", 0o12345670, true},
		{"  17", 0o17, true},
		{"17  ", 0o17, true},
		{"  17 \x00 \x00", 0o17, true},
		{"1 7", 0, false},
		{"1\x007", 0, false},
		{"\x0017", 0, false},
		{" \x0017", 0, false},
		{"17\x00x", 0, false},
		{"x", 0, false},
		{"-1", 0, false},
		{"+1", 0, false},
		{"\t1", 0, false},
		{"1\n", 0, false},
		{"1\x80", 0, false},
		{" \x80", 0, false},
		{"\x7f", 0, false},
		{"20000000000000", 1 << 40, true}, // 2^40
		{"0000000000000000000000000000000020000000000000", 1 << 40, true},
		{"20000000000001", 0, false},
		{"17777777777777", 1<<40 - 1, true},
		{"777777777777777777777777777777777777777777", 0, false},
		{"2000000000000000000000", 0, false}, // 2^64
		{"20000000000001x", 0, false},
		{"\x80", 0, true},
		{"\xff", 127, true},
		{"\x81", 1, true},
		{"\x80\x00\x01\x00", 256, true},
		{"\x81\x02", 258, true},
		{"\x80\x00\x00\x00\x00\x00\x01\x00\x00\x00\x00\x00", 1 << 40, true},
		{"\x80\x00\x00\x00\x00\x00\x01\x00\x00\x00\x00\x01", 0, false},
		{"\x80\x00\x00\x00\x00\x00\x00\xff\xff\xff\xff\xff", 1<<40 - 1, true},
		{"\x80\x01\x00\x00\x00\x00\x00\x00\x00\x00\x00\x00", 0, false}, // 2^80
		{"\xff\xff\xff\xff\xff\xff\xff\xff\xff\xff\xff\xff", 0, false},
		{"\x80" + strings.Repeat("\x00", 1000) + "7", '7', true},
		{"\x80 0", ' '<<8 | '0', true},
		{strings.Repeat(" ", 1000) + "7" + strings.Repeat("\x00 ", 500), 7, true},
	} {
		if n, ok := Number(x.field); n != x.want || ok != x.ok {
			t.Errorf("%q: %d, %v, want %d, %v", x.field, n, ok, x.want, x.ok)
		}
	}
}

var octalForm = regexp.MustCompile("^ *([0-7]*)[ \x00]*$")

// wordNumber: by another way, for fields of at most 7 bytes.
func wordNumber(field string) (int, bool) {
	switch m := octalForm.FindStringSubmatch(field); {
	case field == "":
		return 0, false
	case field[0] >= 0x80:
		n := int(field[0]) - 0x80
		for i := 1; i < len(field); i++ {
			n = n*256 + int(field[i])
		}
		if n > 1<<40 {
			return 0, false
		}
		return n, true
	case m == nil:
		return 0, false
	case m[1] == "":
		return 0, true
	default:
		n, err := strconv.ParseInt(m[1], 8, 64)
		return int(n), err == nil
	}
}

func TestNumberAsTheWordsSay(t *testing.T) {
	c := chance(1)
	for range 200000 {
		field := some(c, []string{" 07\x00", " 018\x00x", "\x80\x00\x01\xff "}[c.IntN(3)], 7)
		n, ok := Number(field)
		if want, wok := wordNumber(field); n != want || ok != wok {
			t.Fatalf("%q: %d, %v, want %d, %v", field, n, ok, want, wok)
		}
	}
}

// P6.2

func TestRecords(t *testing.T) {
	big := "1000011 key=" + strings.Repeat("v", 1000011-13) + "\n"
	for _, x := range []struct {
		data string
		want [][2]string
		ok   bool
	}{
		{"", nil, true},
		{"12 path=abc\n", [][2]string{{"path", "abc"}}, true},
		{"12 path=abc\n8 a=b=c\n", [][2]string{{"path", "abc"}, {"a", "b=c"}}, true},
		{"8 a=b=c\n12 path=abc\n8 a=b=d\n", [][2]string{{"a", "b=c"}, {"path", "abc"}, {"a", "b=d"}}, true},
		{"5 a=\n", [][2]string{{"a", ""}}, true},
		{"6 a==\n", [][2]string{{"a", "="}}, true},
		{"6 a=\n\n", [][2]string{{"a", "\n"}}, true},
		{"6 \n\n=\n", [][2]string{{"\n\n", ""}}, true},
		{"6 \x00\n=\n", [][2]string{{"\x00\n", ""}}, true},
		{"7 \x00\n=\n", nil, false},
		{"6 \x00 =\n", [][2]string{{"\x00 ", ""}}, true},
		{"6 \n==\n", [][2]string{{"\n", "="}}, true},
		{"7  a=\x00\n", [][2]string{{" a", "\x00"}}, true},
		{"9 a=5 b=\n", [][2]string{{"a", "5 b="}}, true},
		{"4 =\n", nil, false},
		{"5 =a\n", nil, false},
		{"5 abc\n", nil, false},
		{"5 ab\n", nil, false},
		{"4 a\n", nil, false},
		{"3 \n", nil, false},
		{"2 ", nil, false},
		{"2\n", nil, false},
		{"1", nil, false},
		{"1 a=b\n", nil, false},
		{"0", nil, false},
		{"0 a=b\n", nil, false},
		{"06 a=b\n", nil, false},
		{"07 a=b\n", nil, false},
		{" 7 a=b\n", nil, false},
		{"-6 a=b\n", nil, false},
		{"+7 a=b\n", nil, false},
		{"a", nil, false},
		{" ", nil, false},
		{"\n", nil, false},
		{"=", nil, false},
		{"5", nil, false},
		{"5 ", nil, false},
		{"5 a=", nil, false},
		{"5 a=b", nil, false},
		{"5 a=b\n", nil, false},
		{"6 a=b\n", [][2]string{{"a", "b"}}, true},
		{"7 a=b\n", nil, false},
		{"7 a=b\n\n", [][2]string{{"a", "b\n"}}, true},
		{"6 a=b\n\n", nil, false},
		{"6 a=b\n\x00", nil, false},
		{"6 a=b\n6", nil, false},
		{"6 a=b\n6 c=d", nil, false},
		{"6\ta=b\n", nil, false},
		{"6a=b\n", nil, false},
		{"6 a=b\r", nil, false},
		{"6 a=b\n6 =cd\n", nil, false},
		{"11 path=abc\n", nil, false},
		{"12 path=abc\n8 a=b=c\n7 b\n", nil, false},
		{big, [][2]string{{"key", big[12 : len(big)-1]}}, true},
		{"999999999 a=b\n", nil, false},
		{"1000000000 a=b\n", nil, false},
		{"9223372036854775807 a=b\n", nil, false},
		{"18446744073709551622 a=b\n", nil, false},
		{strings.Repeat("1", 1000), nil, false},
	} {
		if got, ok := Records(x.data); !slices.Equal(got, x.want) || ok != x.ok {
			t.Errorf("%.60q: %q, %v, want %q, %v", x.data, got, ok, x.want, x.ok)
		}
	}
}

// The edges of a record's digits; one of ten digits would have a thousand million bytes.
func TestRecordSize(t *testing.T) {
	for data, want := range map[string][2]int{
		"9": {9, 1}, "10 ": {10, 2}, "123456789 a=b": {123456789, 9}, "999999999": {999999999, 9},
		"1000000000": {}, "9999999999 a=b": {}, "0": {}, "012 ": {}, "": {}, " 1": {}, "a": {},
	} {
		if size, n := recordSize(data); [2]int{size, n} != want {
			t.Errorf("%q: %d, %d, want %v", data, size, n, want)
		}
	}
	const size = 100000000
	whole := "100000000 a=" + strings.Repeat("v", size-13) + "\n"
	if l, ok := Records(whole); !ok || len(l) != 1 || l[0][0] != "a" || len(l[0][1]) != size-13 {
		t.Errorf("nine digits: %d records, %v", len(l), ok)
	}
	if l, ok := Records(whole[:size-1]); ok || len(l) > 0 {
		t.Errorf("nine digits, a byte is wanting: %d records", len(l))
	}
}

var recordForm = regexp.MustCompile(`(?s)^([1-9][0-9]{0,8}) ([^=]+)=(.*)\n$`)

// wordRecords tries for the first record each of the sizes that there could be.
func wordRecords(data string) ([][2]string, bool) {
	var list [][2]string
	for data != "" {
		found := 0
		for size := 1; size <= len(data); size++ {
			m := recordForm.FindStringSubmatch(data[:size])
			if m == nil {
				continue
			}
			if told, _ := strconv.Atoi(m[1]); told == size {
				found = size
				list = append(list, [2]string{m[2], m[3]})
				break
			}
		}
		if found == 0 {
			return nil, false
		}
		data = data[found:]
	}
	return list, true
}

func TestRecordsAsTheWordsSay(t *testing.T) {
	c := chance(2)
	good := 0
	for range 20000 {
		data := ""
		for range c.IntN(4) {
			data += record("k"+some(c, "ab \n5", 3), some(c, "ab =\n7", 9))
		}
		b := []byte(data)
		if len(b) > 0 && c.IntN(2) == 0 {
			b[c.IntN(len(b))] = "0123456789 =\na"[c.IntN(14)]
		}
		if c.IntN(4) == 0 {
			b = b[:c.IntN(len(b)+1)]
		}
		got, ok := Records(string(b))
		if want, wok := wordRecords(string(b)); !slices.Equal(got, want) || ok != wok {
			t.Fatalf("%q: %q, %v, want %q, %v", b, got, ok, want, wok)
		}
		if ok {
			good++
		}
	}
	if good == 0 || good == 20000 {
		t.Errorf("%d are good", good)
	}
}
