package prefix

import (
	"math"
	"math/rand/v2"
	"strings"
	"testing"

	"ferret/api"
	"ferret/sets"
)

const (
	mayBeEmpty = true
	hasBytes   = false
)

// nextByWords: place by place.
func nextByWords(text, word string, first sets.Set, empty bool, from int) int {
	for at := max(from, 0); at <= len(text); at++ {
		switch {
		case word != "":
			if at+len(word) <= len(text) && text[at:at+len(word)] == word {
				return at
			}
		case empty:
			return at
		case at < len(text) && first.Has(int(text[at])):
			return at
		}
	}
	return -1
}

func checkNext(t *testing.T, text, word string, first sets.Set, empty bool, from, want int) {
	t.Helper()
	if got := Next(text, word, first, empty, from); got != want {
		t.Fatalf("%.60q (%d) in %.60q (%d), of %v, %v, from %d: %d, want %d", word, len(word), text, len(text), first, empty, from, got, want)
	}
}

func TestNextByHand(t *testing.T) {
	none, all := sets.Set(nil), sets.Of(span(0, api.MaxRune))
	vowels := sets.Of(one('a'), one('e'), one('i'), one('o'), one('u'))
	for _, c := range []struct {
		text, word string
		first      sets.Set
		empty      bool
		from, want int
	}{
		// A word: whatever first and empty are.
		{"abcabc", "ca", none, hasBytes, 1, 2},
		{"abc", "x", none, mayBeEmpty, 0, -1},
		{"abc", "x", all, mayBeEmpty, 0, -1},
		{"abc", "x", all, hasBytes, 0, -1},
		{"abcabc", "abc", none, hasBytes, 0, 0},
		{"abcabc", "abc", none, mayBeEmpty, 1, 3},
		{"abcabc", "abc", none, hasBytes, 3, 3},
		{"abcabc", "abc", none, hasBytes, 4, -1},
		{"abcabc", "abc", none, hasBytes, 6, -1},
		{"abcabc", "abc", none, hasBytes, 7, -1},
		{"abcabc", "c", none, hasBytes, 5, 5},
		{"aaaa", "aa", none, hasBytes, 1, 1},
		{"aaaa", "aa", none, hasBytes, 2, 2},
		{"aaaa", "aa", none, hasBytes, 3, -1},
		{"aaaa", "aaaaa", none, hasBytes, 0, -1},
		{"", "a", none, hasBytes, 0, -1},
		{"", "a", all, mayBeEmpty, 0, -1},
		{"\x00\xFF", "\xFF", none, hasBytes, 0, 1},
		{"\u00E4", "\xA4", none, hasBytes, 0, 1},

		// No word: bytes.
		{"xyzab", "", vowels, hasBytes, 0, 3},
		{"xyzab", "", vowels, hasBytes, 3, 3},
		{"xyzab", "", vowels, hasBytes, 4, -1},
		{"xyzab", "", vowels, hasBytes, 5, -1},
		{"xyzab", "", vowels, hasBytes, 6, -1},
		{"xyzau", "", vowels, hasBytes, 4, 4},
		{"xyzab", "", none, hasBytes, 0, -1},
		{"xyz", "", all, hasBytes, 2, 2},
		{"xyz", "", all, hasBytes, 3, -1},
		{"", "", all, hasBytes, 0, -1},
		{"", "", none, hasBytes, 0, -1},
		{"a\x00", "", sets.Of(one(0)), hasBytes, 0, 1},
		{"a\xFF", "", sets.Of(one(0xFF)), hasBytes, 0, 1},
		{"\u00E4", "", sets.Of(one(0xE4)), hasBytes, 0, -1},
		{"\u00E4", "", sets.Of(span(0x80, 0xBF)), hasBytes, 0, 1},

		// No word, and no bytes either: any place.
		{"abc", "", none, mayBeEmpty, 0, 0},
		{"abc", "", none, mayBeEmpty, 2, 2},
		{"abc", "", none, mayBeEmpty, 3, 3},
		{"abc", "", none, mayBeEmpty, 4, -1},
		{"xyzab", "", vowels, mayBeEmpty, 1, 1},
		{"", "", none, mayBeEmpty, 0, 0},
		{"", "", none, mayBeEmpty, 1, -1},
	} {
		checkNext(t, c.text, c.word, c.first, c.empty, c.from, c.want)
		if want := nextByWords(c.text, c.word, c.first, c.empty, c.from); want != c.want {
			t.Errorf("%q in %q from %d: the model has %d", c.word, c.text, c.from, want)
		}
	}
}

// TestNextFromAnywhere: below 0 it is 0, and behind the end there is nothing.
func TestNextFromAnywhere(t *testing.T) {
	long := strings.Repeat("b", api.MaxPattern+1)
	for _, text := range []string{"", "a", "bab", long, "a" + long} {
		for _, word := range []string{"", "a", "ab", "b", long} {
			for _, first := range []sets.Set{nil, sets.Of(one('a')), sets.Of(one('b'))} {
				for _, empty := range []bool{mayBeEmpty, hasBytes} {
					for _, from := range []int{-1, -2, math.MinInt, math.MinInt + 1} {
						checkNext(t, text, word, first, empty, from, nextByWords(text, word, first, empty, 0))
					}
					for _, from := range []int{len(text) + 1, len(text) + 2, math.MaxInt - 1, math.MaxInt} {
						checkNext(t, text, word, first, empty, from, -1)
					}
				}
			}
		}
	}
}

func someBytes(source *rand.Rand, length int, signs string) string {
	var b strings.Builder
	for range length {
		b.WriteByte(signs[source.IntN(len(signs))])
	}
	return b.String()
}

func TestNextAgainstModel(t *testing.T) {
	source := rand.New(rand.NewPCG(18, 1))
	found := 0
	for range 60000 {
		signs := []string{"ab", "abc", "\x00\xFFa", "abcdefgh", "\x7F\x80\xC3\xA4"}[source.IntN(5)]
		text := someBytes(source, source.IntN(80), signs)
		word := someBytes(source, source.IntN(6), signs)
		var first sets.Set
		for range source.IntN(3) {
			first = first.Or(sets.Of(one(int(signs[source.IntN(len(signs))]))))
		}
		empty, from := source.IntN(4) == 0, source.IntN(len(text)+4)-2
		want := nextByWords(text, word, first, empty, from)
		checkNext(t, text, word, first, empty, from, want)
		if want >= 0 && word != "" {
			found++
		}
	}
	if found < 10000 {
		t.Errorf("only %d words were found", found)
	}
}

// TestNextAtEachPlace: pieces of the text that are looked through end at any of them.
func TestNextAtEachPlace(t *testing.T) {
	blank := strings.Repeat(".", 700)
	for _, length := range []int{1, 2, 7, 8, 9, 15, 16, 17, 100} {
		word := strings.Repeat("#", length)
		for from := range len(blank) - length + 1 {
			text := blank[:from] + word + blank[from+length:]
			checkNext(t, text, word, nil, hasBytes, 0, from)
			checkNext(t, text, word, nil, hasBytes, from, from)
			checkNext(t, text, word, nil, hasBytes, from+1, -1)
			checkNext(t, text, word, nil, hasBytes, from/2, from)
		}
	}
}

// TestLongWords: of those that layer 17 has no places for too.
func TestLongWords(t *testing.T) {
	for _, length := range []int{api.MaxPattern - 1, api.MaxPattern, api.MaxPattern + 1, 2 * api.MaxPattern, 5000} {
		word := strings.Repeat("a", length-1) + "b"
		for _, ahead := range []int{0, 1, 2, 1000, 6000} {
			text := strings.Repeat("a", ahead) + word + word
			for _, from := range []int{-1, 0, ahead - 1, ahead, ahead + 1, ahead + length, ahead + length + 1, len(text)} {
				want := -1
				switch {
				case from <= ahead:
					want = ahead
				case from <= ahead+length:
					want = ahead + length
				}
				checkNext(t, text, word, nil, hasBytes, from, want)
			}
			checkNext(t, text[:ahead+length-1], word, nil, hasBytes, 0, -1)
			checkNext(t, text[:ahead+length-1]+"c", word, sets.Of(one('a')), mayBeEmpty, 0, -1)
		}
	}
}

// TestLongTexts: in which what would be looked through again from each place would never end.
func TestLongTexts(t *testing.T) {
	long := strings.Repeat("abac", api.MaxOut/4)
	checkNext(t, long, "abab", nil, hasBytes, 0, -1)
	checkNext(t, long+"abab", "abab", nil, hasBytes, 0, api.MaxOut)
	checkNext(t, long, strings.Repeat("abac", 2000)+"b", nil, hasBytes, 0, -1)
	checkNext(t, long, "", sets.Of(one('d')), hasBytes, 0, -1)
	checkNext(t, long+"d", "", sets.Of(one('d')), hasBytes, 0, api.MaxOut)
	places := 0
	for at := Next(long, "abac", nil, hasBytes, 0); at >= 0; at = Next(long, "abac", nil, hasBytes, at+1) {
		if at != 4*places {
			t.Fatalf("%d, behind %d others", at, places)
		}
		places++
	}
	if places != api.MaxOut/4 {
		t.Errorf("%d places", places)
	}
}
