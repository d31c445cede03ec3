// Package blocks holds what unpacking and packing by RFC 1951 share: how the blocks of layers 3 and 4 are told.
package blocks

// The kinds of blocks.
const (
	Stored  = 0
	Fixed   = 1
	Dynamic = 2
)

const (
	// End is the symbol that ends a block; the bytes' symbols stand ahead of it, the lengths' behind it.
	End = 256

	// Literals is how many symbols of bytes, of the end and of lengths a block of kind 2 tells at the most.
	Literals = 286

	// Distances is how many symbols of distances there are.
	Distances = 30

	// The numbers of kind 2's head are told less these.
	LeastLiterals  = 257
	LeastDistances = 1
	LeastLengths   = 4
)

// Order of the symbols by which lengths are told, as kind 2's head tells their own: the seldom used ones stand last, so that they may be left out.
func Order() [19]int {
	return [19]int{16, 17, 18, 0, 8, 7, 9, 6, 10, 5, 11, 4, 12, 3, 13, 2, 14, 1, 15}
}

// FixedLiterals: the lengths of kind 1's codes of bytes, of the end and of lengths.
func FixedLiterals() []int {
	var lengths []int
	for _, part := range [4]struct{ upTo, length int }{{144, 8}, {256, 9}, {280, 7}, {288, 8}} {
		for len(lengths) < part.upTo {
			lengths = append(lengths, part.length)
		}
	}
	return lengths
}

// FixedDistances: the lengths of kind 1's codes of distances; the last two are no distances, but take room.
func FixedDistances() []int {
	lengths := make([]int, Distances+2)
	for i := range lengths {
		lengths[i] = 5
	}
	return lengths
}
