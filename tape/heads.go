package tape

import (
	"strconv"
	"strings"

	"ferret/api"
)

// block is how many bytes a head has; data is filled up to as many, or to a multiple of it.
const block = 512

const (
	mark     = "ustar"
	markTail = "\x00" + "00" // the mark's end, and the form's version behind its field

	sumDigits = 6
)

// field is some of a head's bytes.
type field struct {
	api.Span
}

// The fields of a head. Owner and group are laid, and never asked.
var (
	nameField   = field{api.Span{From: 0, To: 100}}
	modeField   = field{api.Span{From: 100, To: 108}}
	ownerField  = field{api.Span{From: 108, To: 116}}
	groupField  = field{api.Span{From: 116, To: 124}}
	sizeField   = field{api.Span{From: 124, To: 136}}
	timeField   = field{api.Span{From: 136, To: 148}}
	sumField    = field{api.Span{From: 148, To: 156}}
	kindField   = field{api.Span{From: 156, To: 157}}
	linkField   = field{api.Span{From: 157, To: 257}}
	markField   = field{api.Span{From: 257, To: 263}}
	prefixField = field{api.Span{From: 345, To: 500}}
)

func (f field) size() int {
	return f.To - f.From
}

// of: the field's bytes in a head.
func (f field) of(head string) string {
	return head[f.From:f.To]
}

func (f field) text(head string) string {
	return textOf(f.of(head))
}

// lay lays a text into a head, as much of it as finds room in the field.
func (f field) lay(head []byte, text string) {
	copy(head[f.From:f.To], text)
}

// layNumber leaves the field's last byte 00.
func (f field) layNumber(head []byte, n int) {
	f.lay(head, octal(n, f.size()-1))
}

// textOf: bytes up to the first byte 00, or all.
func textOf(s string) string {
	text, _, _ := strings.Cut(s, "\x00")
	return text
}

// octal: a number to the base 8, with noughts ahead up to so many digits.
func octal(n, digits int) string {
	s := strconv.FormatInt(int64(n), 8)
	return strings.Repeat("0", max(digits-len(s), 0)) + s
}

// sumOf: a head's sum, which doesn't hang on what its own field tells.
func sumOf(head string) int {
	sum := ' ' * sumField.size()
	for i := range len(head) {
		if i < sumField.From || i >= sumField.To {
			sum += int(head[i])
		}
	}
	return sum
}

// filled: so many bytes, filled up to blocks.
func filled(size int) int {
	return (size + block - 1) / block * block
}

func hasNoData(kind byte) bool {
	return firstBare <= kind && kind <= lastBare
}
