package utfsplit

import (
	"bytes"
	"math/rand/v2"
	"slices"
	"testing"
	"unicode/utf8"

	"ferret/api"
	"ferret/sets"
	"ferret/ucd"
)

// edges: around each of them something about bytes is another.
var edges = []int{
	0, 0x3F, 0x40, 0x7F, 0x80, 0xBF, 0xC0, 0x7BF, 0x7FF, 0x800, 0x83F, 0xFFF, 0x1000, 0x103F, 0xCFFF, 0xD7BF, 0xD7FF, 0xD800, 0xDBFF, 0xDFFF, 0xE000,
	0xEFFF, 0xF03F, 0xFFBF, 0xFFFF, 0x10000, 0x1003F, 0x10FFF, 0x3FFFF, 0x40000, 0x41000, 0xFFFFF, 0x100000, 0x10EFFF, 0x10FFBF, 0x10FFFF,
}

// points: the edges, and what stands beside them.
func points() []int {
	var l []int
	for _, e := range edges {
		for r := e - 1; r <= e+1; r++ {
			if 0 <= r && r <= api.MaxRune {
				l = append(l, r)
			}
		}
	}
	slices.Sort(l)
	return slices.Compact(l)
}

func isScalar(r int) bool { return utf8.ValidRune(rune(r)) }

func ends(w Row) (least, greatest []byte) {
	for _, r := range w {
		least, greatest = append(least, byte(r.From)), append(greatest, byte(r.To))
	}
	return least, greatest
}

// checkForm: how many rows, of what form, and in which order.
func checkForm(t *testing.T, s sets.Set, l []Row) {
	t.Helper()
	if len(l) > 12*len(s) {
		t.Fatalf("%x: %d rows for %d ranges", s, len(l), len(s))
	}
	for i, w := range l {
		if len(w) < 1 || len(w) > 4 {
			t.Fatalf("%x: a row of %d ranges", s, len(w))
		}
		for _, r := range w {
			if r.From < 0 || r.From > r.To || r.To > 255 {
				t.Fatalf("%x: a range from %x to %x", s, r.From, r.To)
			}
		}
		if i == 0 {
			continue
		}
		// Within a row all texts have as many bytes, so its ends are its least and its greatest.
		_, ahead := ends(l[i-1])
		if least, _ := ends(w); bytes.Compare(ahead, least) >= 0 {
			t.Fatalf("%x: row %x behind row %x", s, w, l[i-1])
		}
	}
}

// texts hands on all that fit into a row, in order.
func texts(w Row, told []byte, hand func(text []byte)) {
	if len(w) == 0 {
		hand(told)
		return
	}
	for b := w[0].From; b <= w[0].To; b++ {
		texts(w[1:], append(told, byte(b)), hand)
	}
}

// checkAll: the texts of all rows are those of the set's scalars, each once, and in order.
func checkAll(t *testing.T, s sets.Set) {
	t.Helper()
	l := Split(s)
	checkForm(t, s, l)
	var want []byte
	for _, r := range s {
		for x := r.From; x <= r.To; x++ {
			if isScalar(x) {
				want = append(utf8.AppendRune(want, rune(x)), '.')
			}
		}
	}
	got := make([]byte, 0, len(want))
	for _, w := range l {
		texts(w, nil, func(text []byte) { got = append(append(got, text...), '.') })
	}
	if !bytes.Equal(got, want) {
		t.Fatalf("%x: %x: other texts than those of its scalars", s, l)
	}
}

// checkPoints: as many texts fit as there are scalars, and of those at the edges each that should.
func checkPoints(t *testing.T, s sets.Set, at []int) {
	t.Helper()
	l := Split(s)
	checkForm(t, s, l)
	total := 0
	for _, w := range l {
		size := 1
		for _, r := range w {
			size *= r.To - r.From + 1
		}
		total += size
	}
	if want := s.Less(set(0xD800, 0xDFFF)).Size(); total != want {
		t.Fatalf("%x: %d texts fit, want %d", s, total, want)
	}
	for _, x := range at {
		want := s.Has(x) && isScalar(x)
		if got := fits(l, plain(x)); got > 1 || got == 1 != want {
			t.Fatalf("%x: %x fits into %d rows", s, x, got)
		}
	}
}

func fits(l []Row, text string) int {
	n := 0
	for _, w := range l {
		if w.Has(text) {
			n++
		}
	}
	return n
}

// plain: the bytes of a number as UTF-8 would have them, if it were a scalar or not.
func plain(x int) string {
	if isScalar(x) {
		return string(rune(x))
	}
	return string([]byte{0xE0 | byte(x>>12), 0x80 | byte(x>>6&0x3F), 0x80 | byte(x&0x3F)})
}

func TestRangesBetweenEdges(t *testing.T) {
	at := points()
	for i, from := range at {
		for _, to := range at[i:] {
			checkPoints(t, set(from, to), at)
		}
	}
}

func TestSetsOfEdges(t *testing.T) {
	at := points()
	source := rand.New(rand.NewPCG(13, 1))
	for range 3000 {
		var l []int
		for range source.IntN(6) {
			from := at[source.IntN(len(at))]
			l = append(l, from, from+source.IntN(1<<source.IntN(21)))
		}
		checkPoints(t, set(l...), at)
	}
}

func TestAllTexts(t *testing.T) {
	checkAll(t, set(1, api.MaxRune-1))
	checkAll(t, set(0x81, 0x10FFBE))
	checkAll(t, set(0, 9, 11, api.MaxRune))
	for _, name := range ucd.Names() {
		s, _ := ucd.Class(name)
		checkAll(t, s)
		checkAll(t, s.Not())
	}
	source := rand.New(rand.NewPCG(13, 2))
	for range 1000 {
		var l []int
		for range source.IntN(30) {
			from := source.IntN(1 << source.IntN(22))
			l = append(l, from, from+source.IntN(1<<source.IntN(14)))
		}
		checkAll(t, set(l...))
	}
	for x := range api.MaxRune + 1 {
		if l := Split(sets.Set{{From: x, To: x}}); isScalar(x) && (len(l) != 1 || !l[0].Has(plain(x))) || !isScalar(x) && len(l) != 0 {
			t.Fatalf("%x alone: %x", x, l)
		}
	}
	var odd sets.Set
	for x := 1; x <= api.MaxRune; x += 2 {
		odd = append(odd, api.Range{From: x, To: x})
	}
	checkAll(t, odd)
}

// TestNothingElseFits: of what isn't UTF-8 nothing fits, whatever the set.
func TestNothingElseFits(t *testing.T) {
	all := Split(set(0, api.MaxRune))
	for _, text := range []string{
		"", "\x80", "\xBF", "\xC0", "\xC2", "\xE0", "\xF0", "\xF5", "\xFF", "aa", "a\x80", "\xC0\x80", "\xC1\xBF", "\xC2\x7F", "\xC2\xC0", "\xDFa",
		"\xE0\x9F\xBF", "\xE0\x80\x80", "\xE0\xA0", "\xED\xA0\x80", "\xED\xBF\xBF", "\xE1\x80\x7F", "\xEF\xBF\xC0", "\xE1\xC0\x80",
		"\xF0\x8F\xBF\xBF", "\xF0\x80\x80\x80", "\xF0\x90\x80", "\xF4\x90\x80\x80", "\xF5\x80\x80\x80", "\xF1\x80\x80\xC0", "\xF1\x80\x80\x80\x80", "\xC3\xA4\xC3\xA4",
	} {
		if n := fits(all, text); n != 0 {
			t.Errorf("%x fits into %d rows", text, n)
		}
	}
	for first := range 256 {
		for second := range 256 {
			one, two := string([]byte{byte(first)}), string([]byte{byte(first), byte(second)})
			for _, text := range []string{one, two, two + "\x80", two + "\xBF", two + "\xC0", two + "\x80\x80", two + "\xBF\xBF", two + "\x80\x7F"} {
				scalar := utf8.ValidString(text) && utf8.RuneCountInString(text) == 1
				if n := fits(all, text); n > 1 || n == 1 != scalar {
					t.Errorf("%x fits into %d rows", text, n)
				}
			}
		}
	}
}

// TestEveryListIsItsOwn: what is handed in stays as it was, and nobody shares anything.
func TestEveryListIsItsOwn(t *testing.T) {
	room := []api.Range(set(0x41, 0x5A, 0x81, 0xFFFE, 0x20000, 0x20001))
	room = append(room, ranges(-7, -7, -8, -8)...)
	kept := slices.Clone(room)
	s := sets.Set(room[:3])
	seen := map[*api.Range]bool{}
	see := func(l []api.Range) {
		for i := range l[:cap(l)] {
			if where := &l[:cap(l)][i]; seen[where] {
				t.Error("memory is shared")
			} else {
				seen[where] = true
			}
		}
	}
	see(room)
	first, second := Split(s), Split(s)
	for _, w := range slices.Concat(first, second) {
		see(w)
	}
	if !slices.EqualFunc(first, second, slices.Equal[Row]) {
		t.Errorf("%x, and then %x", first, second)
	}
	see(Heads(first))
	see(Heads(first))
	see(Heads(first[:1]))
	if !slices.Equal(room, kept) || !slices.EqualFunc(first, second, slices.Equal[Row]) {
		t.Errorf("changed: %v, %x", room, first)
	}
}
