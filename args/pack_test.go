package args

import (
	"fmt"
	"math/rand/v2"
	"regexp"
	"slices"
	"strconv"
	"strings"
	"testing"

	"ferret/api"
)

func formAt(at int) api.Fault { return api.Fault{Code: api.ErrForm, At: at} }

func TestPack(t *testing.T) {
	ten, hundred := strings.Repeat("x", 10), strings.Repeat("y", 100)
	for _, c := range []struct {
		l    []string
		want string
	}{
		{nil, ""},
		{[]string{}, ""},
		{[]string{""}, "0:,"},
		{[]string{"ab", ""}, "2:ab,0:,"},
		{[]string{"", "", "a"}, "0:,0:,1:a,"},
		{[]string{ten[1:], ten}, "9:xxxxxxxxx,10:xxxxxxxxxx,"},
		{[]string{hundred[1:], hundred}, "99:" + hundred[1:] + ",100:" + hundred + ","},
		{[]string{":", ",", "1:a,"}, "1::,1:,,4:1:a,,"},
		{[]string{"\x00\xFF\n", "ä", "0"}, "3:\x00\xFF\n,2:ä,1:0,"},
	} {
		if got := Pack(c.l); got != c.want {
			t.Errorf("%q: %q, want %q", c.l, got, c.want)
		}
		if l, fault := Unpack(c.want); !slices.Equal(l, c.l) || fault != (api.Fault{}) {
			t.Errorf("%q: %q %v, want %q", c.want, l, fault, c.l)
		}
	}
}

// TestPackLongTexts: a text of more bytes than seven digits tell is left out, with all behind it.
func TestPackLongTexts(t *testing.T) {
	most := strings.Repeat("a", 9999999)
	over := most + "a"
	for _, c := range []struct {
		what    string
		l, kept []string
	}{
		{"as long as may be", []string{"b", most, "c"}, []string{"b", most, "c"}},
		{"by a byte too long", []string{"b", over, "c", ""}, []string{"b"}},
		{"the first one", []string{over, "c"}, nil},
		{"the last one", []string{"", "c", over}, []string{"", "c"}},
		{"two of them", []string{"b", over, "c", over, "d"}, []string{"b"}},
		{"behind the longest", []string{most, over, most}, []string{most}},
		{"many times too long", []string{"b", over + over, "c"}, []string{"b"}},
	} {
		want := ""
		for _, text := range c.kept {
			want += fmt.Sprintf("%d:%s,", len(text), text)
		}
		got := Pack(c.l)
		if got != want {
			t.Errorf("%s: %d bytes, want %d", c.what, len(got), len(want))
		}
		if l, fault := Unpack(got); !slices.Equal(l, c.kept) || fault != (api.Fault{}) {
			t.Errorf("%s: %d texts %v", c.what, len(l), fault)
		}
	}
	if l, fault := Unpack("1:b,10000000:" + over + ",1:c,"); len(l) > 0 || fault != formAt(4) {
		t.Errorf("eight digits: %d texts %v", len(l), fault)
	}
	if l, fault := Unpack("9999999:" + over + ","); len(l) > 0 || fault != formAt(0) {
		t.Errorf("a byte too many: %d texts %v", len(l), fault)
	}
	if l, fault := Unpack("9999999:" + most[1:] + ","); len(l) > 0 || fault != formAt(0) {
		t.Errorf("a byte too few: %d texts %v", len(l), fault)
	}
}

// TestUnpackFaults: what is no packed text, by itself, behind others, and ahead of others.
func TestUnpackFaults(t *testing.T) {
	for _, s := range []string{
		":", ",", "0", "0:", ":,", ":a,", "0,", "0:;", "0:a,", "00:,", "000:,", "01:a,", "010:aaaaaaaaaa,",
		"1:", "1:a", "1:,", "1:ab,", "1:a;", "1:a:", "1;a,", "1a,", "1", "12", "2:a,", "2:a,x", "2:ab", "2:abc,", "2:ab;", "3:ab,", "9:ab,",
		"-0:,", "-1:,", "-1:a,", "+0:,", "+1:a,", " 1:a,", "1 :a,", "1: a,", "1:a ,", "\t0:,", "1.:a,", "1e0:a,", "0x1:a,", "0b1:a,", "1_0:aaaaaaaaaa,", "a:a,", "A:aaaaaaaaaa,",
		"\u0661:a,", "\uFF11:a,", "\xB9:a,", "1\x00:a,", "\x001:a,", "\uFEFF1:a,", "x", "\n", "\x00", "\xFF",
		"0000000:,", "00000000:,", "00000001:a,", "9999999:a,", "10000000:a,", "99999999:a,", "4294967297:a,", "9223372036854775807:a,", "9223372036854775808:a,", "18446744073709551616:,", "18446744073709551617:a,", "-18446744073709551615:a,",
		strings.Repeat("0", 500) + ":,", strings.Repeat("1", 500) + ":a,", strings.Repeat("9", 1<<20),
	} {
		for _, ahead := range [][]string{nil, {""}, {"a"}, {"", "1:a,", ":"}, {strings.Repeat("b", 1000)}} {
			for _, behind := range []string{"", "\n"} { // a newline mends nothing
				whole := Pack(ahead) + s + behind
				if l, fault := Unpack(whole); len(l) > 0 || fault != formAt(len(Pack(ahead))) {
					t.Errorf("%.60q: %.60q %v", whole, l, fault)
				}
			}
		}
	}
	for s, at := range map[string]int{
		"0:,x1:a,":         3, // the first of what is wrong
		"0:,x1:a,y":        3,
		"1:a,1:b,2:c,1:d,": 8, // the length goes on into the next one
		"1:a,\n1:b,":       4,
		"1:a,1:b,\n":       8,
		"1:a, 1:b,":        4,
		"1:a,,":            4,
		"2:ab,02:ab,":      5,
	} {
		if l, fault := Unpack(s); len(l) > 0 || fault != formAt(at) {
			t.Errorf("%q: %q %v, want %d", s, l, fault, at)
		}
	}
}

var oneHead = regexp.MustCompile(`^(0|[1-9][0-9]{0,6}):`)

// unpackByWords: as the chapter says it, with the library's patterns.
func unpackByWords(s string) ([]string, api.Fault) {
	var l []string
	for at := 0; at < len(s); {
		head := oneHead.FindString(s[at:])
		length, _ := strconv.ParseUint(strings.TrimSuffix(head, ":"), 10, 64)
		end := at + len(head) + int(length)
		if head == "" || end >= len(s) || s[end] != ',' {
			return nil, formAt(at)
		}
		l = append(l, s[at+len(head):end])
		at = end + 1
	}
	return l, api.Fault{}
}

func checkUnpack(t *testing.T, s string) bool {
	t.Helper()
	want, wrong := unpackByWords(s)
	got, fault := Unpack(s)
	if !slices.Equal(got, want) || fault != wrong {
		t.Fatalf("%q: %q %v, want %q %v", s, got, fault, want, wrong)
	}
	if fault == (api.Fault{}) && Pack(got) != s {
		t.Fatalf("%q: packed again %q", s, Pack(got))
	}
	return fault == (api.Fault{})
}

// TestUnpackAllShort: all texts of a few bytes.
func TestUnpackAllShort(t *testing.T) {
	const bytes, most = "012:,-", 8
	good := 0
	var further func(s string)
	further = func(s string) {
		if checkUnpack(t, s) {
			good++
		}
		if len(s) < most {
			for _, b := range bytes {
				further(s + string(b))
			}
		}
	}
	further("")
	if good < 100 {
		t.Errorf("only %d are packed texts", good)
	}
}

// TestUnpackSpoiled: packed texts, with a few bytes changed, taken out or put in.
func TestUnpackSpoiled(t *testing.T) {
	r := rand.New(rand.NewPCG(25, 1))
	good, bad := 0, 0
	for range 60000 {
		var l []string
		for range r.IntN(5) {
			text := make([]byte, r.IntN([]int{1, 3, 12, 120}[r.IntN(4)]))
			for i := range text {
				text[i] = "ab0123456789:,,:-\n\x00\xFF"[r.IntN(20)]
			}
			l = append(l, string(text))
		}
		s := []byte(Pack(l))
		if got, fault := Unpack(string(s)); !slices.Equal(got, l) || fault != (api.Fault{}) {
			t.Fatalf("%q: %q %v, want %q", s, got, fault, l)
		}
		for range r.IntN(3) {
			at, b := r.IntN(len(s)+1), "0123456789:,-a"[r.IntN(14)]
			switch end := min(at+r.IntN(2), len(s)); r.IntN(3) {
			case 0:
				s = slices.Replace(s, at, end, b)
			case 1:
				s = slices.Delete(s, at, end)
			case 2:
				s = slices.Insert(s, at, b)
			}
		}
		if checkUnpack(t, string(s)) {
			good++
		} else {
			bad++
		}
	}
	if good < 10000 || bad < 10000 {
		t.Errorf("only %d good and %d bad ones", good, bad)
	}
}

// TestUnpackMany: as long as a text is, each byte is gone through but once.
func TestUnpackMany(t *testing.T) {
	const count = 1 << 20
	s := strings.Repeat("0:,1:a,", count)
	l, fault := Unpack(s)
	if len(l) != 2*count || fault != (api.Fault{}) || Pack(l) != s {
		t.Errorf("%d texts, %v", len(l), fault)
	}
	if l, fault := Unpack(s + "1:a"); len(l) > 0 || fault != formAt(len(s)) {
		t.Errorf("%d texts, %v", len(l), fault)
	}
}

func TestListsAreTheirOwn(t *testing.T) {
	room := []string{"a", "b", "c", "d"}
	if got := Pack(room[1:3]); got != "1:b,1:c," || !slices.Equal(room, []string{"a", "b", "c", "d"}) {
		t.Errorf("%q, %q", got, room)
	}
	first, _ := Unpack("1:a,1:b,")
	second, _ := Unpack("1:a,1:b,")
	clear(second[:cap(second)])
	if !slices.Equal(first, []string{"a", "b"}) {
		t.Errorf("memory is shared: %q", first)
	}
}
