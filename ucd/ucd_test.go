package ucd

import (
	"math"
	"math/rand/v2"
	"slices"
	"strconv"
	"strings"
	"testing"

	"ferret/api"
	"ferret/sets"
)

// table is the chapter's, word for word, and what it says besides.
const table = `
Lu 41 to 5A C0 to D6 D8 to DE 391 to 3A1 3A3 to 3A9 410 to 42F 10400 to 10427
Ll 61 to 7A B5 DF to F6 F8 to FF 17F 3B1 to 3C9 430 to 44F 10428 to 1044F
Lo AA BA 5D0 to 5EA 3041 to 3096 30A1 to 30FA 4E00 to 9FFF
Nd 30 to 39 660 to 669 966 to 96F FF10 to FF19
Pc 5F 203F to 2040
Zs 20 A0 2000 to 200A 3000
P 21 to 23 25 to 2A 2C to 2F 3A to 3B 3F to 40 5B to 5D 5F 7B 7D A1 A7 AB B6 to B7 BB BF 2010 to 2027 203F to 2040 3001 to 3003
Latin 41 to 5A 61 to 7A AA BA C0 to D6 D8 to F6 F8 to 24F 212A to 212B
Greek 391 to 3A1 3A3 to 3E1
Cyrillic 400 to 484
Hebrew 5D0 to 5EA
Hiragana 3041 to 3096
Katakana 30A1 to 30FA
Han 4E00 to 9FFF
Deseret 10400 to 1044F
L 41 to 5A C0 to D6 D8 to DE 391 to 3A1 3A3 to 3A9 410 to 42F 10400 to 10427 61 to 7A B5 DF to F6 F8 to FF 17F 3B1 to 3C9 430 to 44F 10428 to 1044F AA BA 5D0 to 5EA 3041 to 3096 30A1 to 30FA 4E00 to 9FFF
N 30 to 39 660 to 669 966 to 96F FF10 to FF19
Any 0 to 10FFFF
`

const perlBlanks = "9 to D 20 85 A0 2000 to 200A 2028 to 2029 3000"

// rows: the names and the numbers of the table.
func rows() map[string]string {
	m := map[string]string{}
	for line := range strings.SplitSeq(strings.TrimSpace(table), "\n") {
		name, numbers, _ := strings.Cut(line, " ")
		m[name] = numbers
	}
	return m
}

// marked: for each number up to MaxRune, whether numbers such as "41 to 5A B5" tell it.
func marked(numbers string) []bool {
	l := make([]bool, api.MaxRune+1)
	from, to := 0, false
	for word := range strings.FieldsSeq(numbers) {
		if word == "to" {
			to = true
			continue
		}
		n, err := strconv.ParseInt(word, 16, 32)
		if err != nil {
			panic(err)
		}
		if !to {
			from = int(n)
		}
		for r := from; r <= int(n); r++ {
			l[r] = true
		}
		to = false
	}
	return l
}

func checkSet(t *testing.T, what string, s sets.Set, want []bool, turned bool) {
	t.Helper()
	if !sets.Of(s...).Same(s) {
		t.Errorf("%s: %v is no Set", what, s)
	}
	for r, in := range want {
		if s.Has(r) != (in != turned) {
			t.Errorf("%s has %x: %v", what, r, !in)
			return
		}
	}
}

func TestNames(t *testing.T) {
	var want []string
	for name := range rows() {
		want = append(want, name)
	}
	slices.Sort(want)
	if got := Names(); !slices.Equal(got, want) || len(got) != 18 {
		t.Errorf("%q, want %q", got, want)
	}
}

func TestClass(t *testing.T) {
	for name, numbers := range rows() {
		s, ok := Class(name)
		if !ok {
			t.Errorf("no %s", name)
		}
		checkSet(t, name, s, marked(numbers), false)
	}
}

func TestClassOfNoName(t *testing.T) {
	for _, name := range []string{"", "l", "LU", "lu", "any", "ANY", "greek", "Lu ", " Lu", "Lt", "Lm", "No", "Nl", "Z", "Po", "C", "M", "S", "Word", "Lu\x00", "Grek", "Greeks", "\xFF", "d", "w", "Thai"} {
		if s, ok := Class(name); ok || len(s) > 0 {
			t.Errorf("Class(%q) = %v, %v", name, s, ok)
		}
	}
}

func TestPerl(t *testing.T) {
	all := rows()
	told := map[byte]string{'d': all["Nd"], 's': perlBlanks, 'w': all["L"] + " " + all["Nd"] + " " + all["Pc"]}
	for c := range 256 {
		small := c | 0x20
		numbers, want := told[byte(small)]
		want = want && (c == small || c == small-0x20)
		s, ok := Perl(byte(c))
		if ok != want || !ok && len(s) > 0 {
			t.Errorf("Perl(%x) = %v, %v", c, s, ok)
		}
		if want && ok {
			checkSet(t, "Perl of "+string(rune(c)), s, marked(numbers), c != small)
		}
	}
}

// orbits: of each number those that are one with it, by joining what the chapter says is one, again and again.
func orbits() map[int][]int {
	m := map[int][]int{}
	of := func(r int) []int {
		if m[r] == nil {
			return []int{r}
		}
		return m[r]
	}
	join := func(a, b int) {
		l := slices.Concat(of(a), of(b))
		slices.Sort(l)
		l = slices.Compact(l)
		for _, r := range l {
			m[r] = l
		}
	}
	for above, numbers := range map[int]string{0x20: "41 to 5A C0 to D6 D8 to DE 391 to 3A1 3A3 to 3A9 410 to 42F", 0x28: "10400 to 10427"} {
		for r, in := range marked(numbers) {
			if in {
				join(r, r+above)
			}
		}
	}
	for _, l := range [][3]int{{0x4B, 0x6B, 0x212A}, {0x53, 0x73, 0x17F}, {0xC5, 0xE5, 0x212B}, {0xB5, 0x39C, 0x3BC}, {0x3A3, 0x3C2, 0x3C3}} {
		join(l[0], l[1])
		join(l[1], l[2])
	}
	return m
}

func TestOrbit(t *testing.T) {
	all := orbits()
	for r := range api.MaxRune + 1 {
		want := all[r]
		if want == nil {
			want = []int{r}
		}
		if got := Orbit(r); !slices.Equal(got, want) {
			t.Errorf("Orbit(%x) = %x, want %x", r, got, want)
		}
	}
}

func TestOrbitExamples(t *testing.T) {
	for _, c := range []struct {
		r    int
		want []int
	}{
		{0x4B, []int{0x4B, 0x6B, 0x212A}},
		{0x212A, []int{0x4B, 0x6B, 0x212A}},
		{0x3C2, []int{0x3A3, 0x3C2, 0x3C3}},
		{0xB5, []int{0xB5, 0x39C, 0x3BC}},
		{0x39C, []int{0xB5, 0x39C, 0x3BC}},
		{0xD7, []int{0xD7}},
		{0xF7, []int{0xF7}},
		{0xDF, []int{0xDF}},
		{0xFF, []int{0xFF}},
		{0x3A2, []int{0x3A2}},
		{0x10427, []int{0x10427, 0x1044F}},
		{0x10428, []int{0x10400, 0x10428}},
		{0xD800, []int{0xD800}},
		{0, []int{0}},
		{api.MaxRune, []int{api.MaxRune}},
		{-1, nil},
		{api.MaxRune + 1, nil},
		{math.MinInt, nil},
		{math.MaxInt, nil},
		{1<<32 | 'a', nil},
		{-'a', nil},
	} {
		if got := Orbit(c.r); !slices.Equal(got, c.want) {
			t.Errorf("Orbit(%x) = %x, want %x", c.r, got, c.want)
		}
	}
}

func one(r int) api.Range { return api.Range{From: r, To: r} }

func checkClose(t *testing.T, s sets.Set, all map[int][]int) {
	t.Helper()
	var more []api.Range
	for r, l := range all {
		if s.Has(r) {
			for _, other := range l {
				more = append(more, one(other))
			}
		}
	}
	want := s.Or(sets.Of(more...))
	if got := Close(s); !got.Same(want) {
		t.Errorf("Close(%x) = %x, want %x", s, got, want)
	}
}

func TestClose(t *testing.T) {
	all := orbits()
	for r := range all {
		checkClose(t, sets.Of(one(r)), all)
		checkClose(t, sets.Of(one(r)).Not(), all)
	}
	for _, name := range Names() {
		s, _ := Class(name)
		checkClose(t, s, all)
		checkClose(t, s.Not(), all)
	}
	source := rand.New(rand.NewPCG(9, 2))
	for range 300 {
		var l []api.Range
		for range source.IntN(6) {
			from := []int{0x30, 0xB0, 0x380, 0x400, 0x10400, 0x2120, 0}[source.IntN(7)] + source.IntN(0x60)
			l = append(l, api.Range{From: from, To: from + source.IntN(0x30)})
		}
		checkClose(t, sets.Of(l...), all)
	}
}

func TestCloseExamples(t *testing.T) {
	for _, c := range []struct{ from, want sets.Set }{
		{nil, nil},
		{sets.Set{}, nil},
		{sets.Of(one(0x61)), sets.Of(one(0x41), one(0x61))},
		{sets.Of(one('k')), sets.Of(one('K'), one('k'), one(0x212A))},
		{sets.Of(one('1'), one(0xD7), one(0x1F600)), sets.Of(one('1'), one(0xD7), one(0x1F600))},
		{sets.Of(one('a')).Not(), sets.Of().Not()},
		{sets.Of(one('1')).Not(), sets.Of(one('1')).Not()},
	} {
		if got := Close(c.from); !got.Same(c.want) {
			t.Errorf("Close(%x) = %x, want %x", c.from, got, c.want)
		}
	}
}

func TestCloseLeavesItsSet(t *testing.T) {
	room := sets.Set{one('a'), one('c'), one('x'), one('y')}
	was := slices.Clone(room)
	for n := range len(room) + 1 {
		got := Close(room[:n])
		for i := range got {
			got[i] = api.Range{}
		}
		if !slices.Equal(room, was) {
			t.Fatalf("the set that was handed in is now %v", room)
		}
	}
}

func TestAnswersAreNew(t *testing.T) {
	spoilSet := func(ask func() sets.Set) {
		s := ask()
		was := slices.Clone(s)
		for i := range s {
			s[i] = api.Range{From: -7, To: -7}
		}
		if got := ask(); !slices.Equal(got, was) {
			t.Errorf("an answer changed from %v to %v", was, got)
		}
	}
	for _, name := range Names() {
		spoilSet(func() sets.Set { s, _ := Class(name); return s })
	}
	for _, c := range []byte("dswDSW") {
		spoilSet(func() sets.Set { s, _ := Perl(c); return s })
	}
	clear(Names())
	clear(Orbit('k'))
	if Names()[0] != "Any" || !slices.Equal(Orbit('k'), []int{'K', 'k', 0x212A}) {
		t.Error("an answer changed")
	}
}
