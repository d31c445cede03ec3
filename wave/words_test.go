package wave

import (
	"math/rand/v2"
	"slices"
	"strings"
	"testing"

	"ferret/api"
)

// agreeByWords and placesByWords: byte by byte.
func agreeByWords(text, word string) []int {
	if word == "" || len(word) > api.MaxPattern {
		return nil
	}
	var counts []int
	for p := 0; p+len(word) <= len(text); p++ {
		n := 0
		for k := range len(word) {
			if text[p+k] == word[k] {
				n++
			}
		}
		counts = append(counts, n)
	}
	return counts
}

func placesByWords(text, word string) []int {
	if word == "" || len(word) > api.MaxPattern {
		return nil
	}
	var places []int
	for p := range len(text) {
		if strings.HasPrefix(text[p:], word) {
			places = append(places, p)
		}
	}
	return places
}

func checkWord(t *testing.T, text, word string) {
	t.Helper()
	if got, want := Agree(text, word), agreeByWords(text, word); !slices.Equal(got, want) {
		t.Fatalf("%.60q of %d in %.60q of %d: they agree by %v, want %v", word, len(word), text, len(text), short(got), short(want))
	}
	if got, want := Places(text, word), placesByWords(text, word); !slices.Equal(got, want) {
		t.Fatalf("%.60q of %d stands in %.60q of %d at %v, want %v", word, len(word), text, len(text), short(got), short(want))
	}
}

func short(l []int) []int {
	return l[:min(len(l), 40)]
}

func someBytes(source *rand.Rand, length int, signs string) string {
	var b strings.Builder
	for range length {
		b.WriteByte(signs[source.IntN(len(signs))])
	}
	return b.String()
}

func allBytes() string {
	var b strings.Builder
	for i := range 256 {
		b.WriteByte(byte(i))
	}
	return b.String()
}

func TestWordsByHand(t *testing.T) {
	for _, c := range []struct {
		text, word    string
		agree, places []int
	}{
		{"abcab", "ab", []int{2, 0, 0, 2}, []int{0, 3}},
		{"aaaa", "aa", []int{2, 2, 2}, []int{0, 1, 2}},
		{"a", "a", []int{1}, []int{0}},
		{"a", "b", []int{0}, nil},
		{"ab", "ab", []int{2}, []int{0}},
		{"ab", "ba", []int{0}, nil},
		{"abc", "xbx", []int{1}, nil},
		{"abcabd", "abd", []int{2, 0, 0, 3}, []int{3}},
		{"xyz", "abc", []int{0}, nil},
		{"\x00\xFF\x00", "\x00", []int{1, 0, 1}, []int{0, 2}},
		{"\x00\xFF\x00", "\xFF\x00", []int{0, 2}, []int{1}},
		{"\x7F\x80\x81", "\x80", []int{0, 1, 0}, []int{1}},
		{"\u00E4\u00E5", "\u00E5", []int{1, 0, 2}, []int{2}},
		{"", "", nil, nil},
		{"a", "", nil, nil},
		{"", "a", nil, nil},
		{"ab", "abc", nil, nil},
	} {
		if got := Agree(c.text, c.word); !slices.Equal(got, c.agree) {
			t.Errorf("%q in %q: they agree by %v, want %v", c.word, c.text, got, c.agree)
		}
		if got := Places(c.text, c.word); !slices.Equal(got, c.places) {
			t.Errorf("%q stands in %q at %v, want %v", c.word, c.text, got, c.places)
		}
		checkWord(t, c.text, c.word)
	}
}

// TestLongWords: those of MaxPattern bytes are looked for, longer ones aren't, whatever the text.
func TestLongWords(t *testing.T) {
	long := strings.Repeat("a", 3*api.MaxWave)
	for _, length := range []int{api.MaxPattern - 1, api.MaxPattern} {
		for _, more := range []int{0, 1, 2, api.MaxWave} {
			checkWord(t, long[:length+more], long[:length])
			if len(Places(long[:length+more], long[:length])) != more+1 {
				t.Errorf("a word of %d bytes isn't found", length)
			}
		}
	}
	for _, length := range []int{api.MaxPattern + 1, 2 * api.MaxPattern, api.MaxWave, len(long)} {
		for _, text := range []string{long[:length], long, long[:length-1]} {
			if len(Agree(text, long[:length])) > 0 || len(Places(text, long[:length])) > 0 {
				t.Errorf("a word of %d bytes in %d: some", length, len(text))
			}
		}
	}
}

func TestWordsAgainstModel(t *testing.T) {
	source := rand.New(rand.NewPCG(17, 4))
	found := 0
	for range 20000 {
		signs := []string{"a", "ab", "abc", "\x00\xFF", "abcdefghijk", "\x7F\x80\x81", allBytes()}[source.IntN(7)]
		text := someBytes(source, source.IntN(40), signs)
		word := someBytes(source, source.IntN(6), signs)
		if len(text) > 0 && source.IntN(3) == 0 {
			from := source.IntN(len(text))
			word = text[from : from+source.IntN(len(text)-from+1)]
		}
		checkWord(t, text, word)
		found += len(Places(text, word))
	}
	if found < 10000 {
		t.Errorf("only %d words were found", found)
	}
}

// TestWordsByLength: at the ends of what is transformed in one piece, and at the places at which the next one begins.
func TestWordsByLength(t *testing.T) {
	source := rand.New(rand.NewPCG(17, 5))
	for _, length := range []int{1, 2, 3, 500, api.MaxPattern - 1, api.MaxPattern} {
		step := api.MaxWave - length + 1
		for _, around := range []int{length, 1024, 2048, step, api.MaxWave, 2 * step, api.MaxWave + step, 2 * api.MaxWave} {
			for size := around - 2; size <= around+2; size++ {
				word := someBytes(source, length, "ab")
				text := someBytes(source, max(size, 0), "abc")
				for from := size - length; from >= 0; from -= step + 1 {
					text = text[:from] + word + text[from+length:]
				}
				checkWord(t, text, word)
			}
		}
	}
}

// TestWordsAtEachPlace of a text of two pieces a word is found.
func TestWordsAtEachPlace(t *testing.T) {
	word := "needle\xFF\x00"
	blank := strings.Repeat(".", 2*api.MaxWave)
	for from := range len(blank) - len(word) + 1 {
		if from > 20 && from < api.MaxWave-20 && from%97 != 0 || from > api.MaxWave+20 && from%97 != 0 {
			continue
		}
		text := blank[:from] + word + blank[from+len(word):]
		if got := Places(text, word); !slices.Equal(got, []int{from}) {
			t.Fatalf("at %d: %v", from, got)
		}
		if got := Agree(text, word); got[from] != len(word) || len(got) != len(text)-len(word)+1 {
			t.Fatalf("at %d: they agree by %d", from, got[from])
		}
	}
}

// TestNearlyTheSame: words that differ in one byte by 1 alone, or have the same bytes in another order.
func TestNearlyTheSame(t *testing.T) {
	source := rand.New(rand.NewPCG(17, 6))
	all := allBytes()
	for _, length := range []int{1, 2, 64, api.MaxPattern} {
		for _, signs := range []string{all, "\x00", "\xFF", "\x00\xFF", "\x80"} {
			word := someBytes(source, length, signs)
			other := []byte(word)
			i := source.IntN(length)
			other[i] ^= 1
			j, k := source.IntN(length), source.IntN(length)
			swapped := []byte(word)
			swapped[j], swapped[k] = swapped[k], swapped[j]
			text := string(other) + word + string(swapped) + word + string(other)
			checkWord(t, text, word)
			checkWord(t, string(other), word)
		}
	}
}

// TestAllBytes: each is held against each, and words that have all of them.
func TestAllBytes(t *testing.T) {
	all := allBytes()
	for i := range all {
		checkWord(t, all, all[i:i+1])
		checkWord(t, all+all, all[i:]+all[:i])
	}
	source := rand.New(rand.NewPCG(17, 7))
	checkWord(t, someBytes(source, 3*api.MaxWave, all), strings.Repeat(all, 4))
	checkWord(t, strings.Repeat(all, 40), strings.Repeat(all, 4))
}

func TestLongTexts(t *testing.T) {
	source := rand.New(rand.NewPCG(17, 8))
	text := someBytes(source, api.MaxOut, "abcd")
	for _, word := range []string{"a", "abca", "abcdabcd", text[77777:77877], text[api.MaxOut-api.MaxPattern:], "xyz"} {
		if got, want := Places(text, word), placesByWords(text, word); !slices.Equal(got, want) {
			t.Errorf("%.60q stands at %v, want %v", word, short(got), short(want))
		}
	}
	word := text[api.MaxOut-20:]
	if got, want := Agree(text, word), agreeByWords(text, word); !slices.Equal(got, want) {
		t.Errorf("%q: they agree by %v, want %v", word, short(got), short(want))
	}
}

func TestAnswersAreNew(t *testing.T) {
	for _, ask := range []func(text, word string) []int{Agree, Places} {
		first, second := ask("abcab", "ab"), ask("abcab", "ab")
		was := slices.Clone(first)
		clear(second[:cap(second)])
		if !slices.Equal(first, was) || !slices.Equal(ask("abcab", "ab"), was) {
			t.Errorf("memory is shared: %v", first)
		}
	}
}
