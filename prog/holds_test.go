package prog

import (
	"math"
	"math/rand/v2"
	"regexp"
	"strings"
	"testing"

	"ferret/syntax"
)

// borders by their kinds, in which another program has them.
var borders = map[int]string{
	syntax.BeginText: `\A`, syntax.EndText: `\z`, syntax.BeginLine: `(?m:^)`, syntax.EndLine: `(?m:$)`, syntax.Word: `\b`, syntax.NotWord: `\B`,
}

// TestHoldsByHand: at each place of a text, 1 where it holds.
func TestHoldsByHand(t *testing.T) {
	for _, c := range []struct {
		kind       int
		text, want string
	}{
		{syntax.BeginText, "", "1"},
		{syntax.BeginText, "ab", "100"},
		{syntax.BeginText, "\na", "100"},
		{syntax.EndText, "", "1"},
		{syntax.EndText, "ab", "001"},
		{syntax.EndText, "a\n", "001"},
		{syntax.BeginLine, "", "1"},
		{syntax.BeginLine, "ab", "100"},
		{syntax.BeginLine, "a\nb", "1010"},
		{syntax.BeginLine, "\n\n", "111"},
		{syntax.BeginLine, "a\r\v\f\x85b", "1000000"},
		{syntax.EndLine, "", "1"},
		{syntax.EndLine, "ab", "001"},
		{syntax.EndLine, "a\nb", "0101"},
		{syntax.EndLine, "\n\n", "111"},
		{syntax.EndLine, "a\r\nb", "00101"},
		{syntax.Word, "", "0"},
		{syntax.Word, "a", "11"},
		{syntax.Word, "ab", "101"},
		{syntax.Word, " ", "00"},
		{syntax.Word, "a b", "1111"},
		{syntax.Word, "a  b", "11011"},
		{syntax.Word, " ab ", "01010"},
		{syntax.Word, "09AZ_az", "10000001"},
		{syntax.Word, "-0-", "0110"},
		{syntax.Word, "/0", "011"},
		{syntax.Word, "9:", "110"},
		{syntax.Word, "@A", "011"},
		{syntax.Word, "Z[", "110"},
		{syntax.Word, "^_`", "0110"},
		{syntax.Word, "`a", "011"},
		{syntax.Word, "z{", "110"},
		{syntax.Word, "\u00E4", "000"},
		{syntax.Word, "a\u00E4", "1100"},
		{syntax.Word, "a\x00\xFF", "1100"},
		{syntax.NotWord, "", "1"},
		{syntax.NotWord, "ab", "010"},
		{syntax.NotWord, " ", "11"},
		{syntax.NotWord, "a b", "0000"},
		{syntax.NotWord, "\u00E4", "111"},
	} {
		var got strings.Builder
		for at := range len(c.text) + 1 {
			got.WriteByte("01"[number(Holds(c.kind, c.text, at))])
		}
		if got.String() != c.want {
			t.Errorf("kind %d in %q: %s, want %s", c.kind, c.text, got.String(), c.want)
		}
	}
}

func number(b bool) int {
	if b {
		return 1
	}
	return 0
}

// TestHoldsNowhere: at no place that there isn't, and of no other kind.
func TestHoldsNowhere(t *testing.T) {
	for _, text := range []string{"", "a", "a\nb", "\n"} {
		for kind := range borders {
			for _, at := range []int{-1, -2, len(text) + 1, len(text) + 2, math.MinInt, math.MaxInt} {
				if Holds(kind, text, at) {
					t.Errorf("kind %d in %q at %d", kind, text, at)
				}
			}
		}
		for _, kind := range []int{-1, syntax.Empty, syntax.Class, syntax.Cat, syntax.Alt, syntax.Repeat, syntax.Group, 12, math.MinInt, math.MaxInt} {
			for at := -1; at <= len(text)+1; at++ {
				if Holds(kind, text, at) {
					t.Errorf("kind %d in %q at %d", kind, text, at)
				}
			}
		}
	}
}

// TestWordsOfAllBytes: which bytes words have, each beside each.
func TestWordsOfAllBytes(t *testing.T) {
	const in = "0123456789ABCDEFGHIJKLMNOPQRSTUVWXYZ_abcdefghijklmnopqrstuvwxyz"
	for first := range 256 {
		for second := range 256 {
			text := string([]byte{byte(first), byte(second)})
			ahead, there := strings.IndexByte(in, text[0]) >= 0, strings.IndexByte(in, text[1]) >= 0
			for at, want := range []bool{ahead, ahead != there, there} {
				if Holds(syntax.Word, text, at) != want || Holds(syntax.NotWord, text, at) == want {
					t.Fatalf("%q at %d: want %v", text, at, want)
				}
			}
		}
	}
}

// TestHoldsAsElsewhere: against another program's borders, in texts of ASCII, in which it stops at each byte.
func TestHoldsAsElsewhere(t *testing.T) {
	source := rand.New(rand.NewPCG(14, 4))
	for kind, word := range borders {
		other := regexp.MustCompile(word)
		for range 3000 {
			var b strings.Builder
			for range source.IntN(10) {
				b.WriteByte("ab_0 \n-"[source.IntN(7)])
			}
			want := map[int]bool{}
			for _, l := range other.FindAllStringIndex(b.String(), -1) {
				want[l[0]] = true
			}
			for at := range b.Len() + 1 {
				if got := Holds(kind, b.String(), at); got != want[at] {
					t.Fatalf("kind %d in %q at %d: %v", kind, b.String(), at, got)
				}
			}
		}
	}
}
