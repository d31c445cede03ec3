package wave

import (
	"strings"

	"ferret/api"
)

// gauge gives numbers to the bytes of a text and to those of a word; what two bytes count is the real part of the product of theirs.
type gauge struct {
	ofText, ofWord func(b byte) complex128
}

// Agree: at each place of a text how many bytes are a word's.
func Agree(text, word string) []int {
	if !mayStand(text, word) {
		return nil
	}
	var counts []int
	along(text, word, sameBytes(text, word), func(_, sum int) {
		counts = append(counts, sum)
	})
	return counts
}

// Places: where a word stands in a text.
func Places(text, word string) []int {
	if !mayStand(text, word) {
		return nil
	}
	var places []int
	whole := -squares(word)
	along(text, word, []gauge{farBytes()}, func(place, sum int) {
		if sum == whole {
			places = append(places, place)
		}
	})
	return places
}

// mayStand: may a word be looked for in a text?
func mayStand(text, word string) bool {
	return word != "" && len(word) <= len(text) && len(word) <= api.MaxPattern
}

// sameBytes: gauges that together count 1, where both bytes are the same, else 0.
func sameBytes(text, word string) []gauge {
	var both []byte
	for i := range 256 {
		b := byte(i)
		if strings.IndexByte(word, b) >= 0 && strings.IndexByte(text, b) >= 0 {
			both = append(both, b)
		}
	}
	var l []gauge
	for i := 0; i < len(both); i += 2 {
		l = append(l, oneOfTwo(both[i], both[min(i+1, len(both)-1)]))
	}
	return l
}

// oneOfTwo counts where one of two bytes is the same in both: 1·1 and i·-i are 1, and of one and the other the real part is 0.
func oneOfTwo(first, second byte) gauge {
	number := func(b byte, ofSecond complex128) complex128 {
		switch b {
		case first:
			return 1
		case second:
			return ofSecond
		}
		return 0
	}
	return gauge{
		ofText: func(b byte) complex128 { return number(b, 1i) },
		ofWord: func(b byte) complex128 { return number(b, -1i) },
	}
}

// farBytes counts the square of how far a text's byte is from a word's, less that of the word's: t² - 2tw.
// So where the word stands whole, and nowhere else, all squares together are 0.
func farBytes() gauge {
	return gauge{
		ofText: func(b byte) complex128 {
			t := level(b)
			return complex(t*t, t)
		},
		ofWord: func(b byte) complex128 { return complex(1, 2*level(b)) },
	}
}

// squares: of a word's bytes, together.
func squares(word string) int {
	sum := 0.0
	for i := range len(word) {
		w := level(word[i])
		sum += w * w
	}
	return int(sum)
}

// level: a byte's number, with 0 in the middle, so that sums stay small.
func level(b byte) float64 {
	return float64(b) - 128
}

// along holds a word against a text at all places at which it may stand, in order, and tells of each what gauges count there together.
func along(text, word string, gauges []gauge, tell func(place, sum int)) {
	c := circleFor(min(len(text), api.MaxWave))
	var waves [][]complex128
	for _, g := range gauges {
		waves = append(waves, c.forth(c.ofWord(word, g)))
	}
	step := c.length - len(word) + 1 // behind so many places the word goes round the end to the beginning
	places := len(text) - len(word) + 1
	for from := 0; from < places; from += step {
		sum := make([]complex128, c.length)
		for i, g := range gauges {
			addProducts(sum, c.forth(c.ofText(text[from:], g)), waves[i])
		}
		for k, v := range c.back(sum)[:min(step, places-from)] {
			tell(from+k, nearest(v))
		}
	}
}

// ofText: the numbers of a text's first bytes, as many as there is room for.
func (c circle) ofText(text string, g gauge) []complex128 {
	x := make([]complex128, c.length)
	for i := range min(len(text), c.length) {
		x[i] = g.ofText(text[i])
	}
	return x
}

// ofWord: the numbers of a word's bytes, laid backward from the place 0 round the end, so that what is told at a place is of the word that begins there.
func (c circle) ofWord(word string, g gauge) []complex128 {
	x := make([]complex128, c.length)
	for i := range len(word) {
		x[(c.length-i)%c.length] = g.ofWord(word[i])
	}
	return x
}
