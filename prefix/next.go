package prefix

import (
	"strings"

	"ferret/api"
	"ferret/sets"
	"ferret/wave"
)

// firstPiece is how many bytes are looked through first of all, or as many as two words have.
const firstPiece = 16

// nextWord looks through pieces of the text, each longer than the last: a word is mostly soon found or nowhere, and layer 17 tells all places of a piece.
func nextWord(text, word string, from int) int {
	if len(word) > api.MaxPattern {
		return nextLong(text, word, from)
	}
	size := max(firstPiece, 2*len(word))
	for len(word) <= len(text)-from {
		piece := text[from:]
		piece = piece[:min(size, len(piece))]
		if places := wave.Places(piece, word); len(places) > 0 {
			return from + places[0]
		}
		from += len(piece) - len(word) + 1
		size *= 2
	}
	return nowhere
}

// nextLong is for words that are too long for layer 17, as bounded repeats have them.
func nextLong(text, word string, from int) int {
	at := strings.Index(text[from:], word)
	if at < 0 {
		return nowhere
	}
	return from + at
}

func nextByte(text string, first sets.Set, from int) int {
	for at := from; at < len(text); at++ {
		if first.Has(int(text[at])) {
			return at
		}
	}
	return nowhere
}
