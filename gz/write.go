package gz

import (
	"strings"

	"ferret/api"
	"ferret/squeeze"
)

// Write: a file of parts.
func Write(parts []Part, choices []squeeze.Choice) (string, api.Errno) {
	if len(parts) == 0 || len(parts) > api.MaxMembers {
		return "", api.ErrArg
	}
	for _, p := range parts {
		if err := check(p); err != api.OK {
			return "", err
		}
	}
	var file strings.Builder
	for _, p := range parts {
		file.WriteString(headOf(p))
		file.WriteString(squeeze.Pack(p.Data, choices))
		file.WriteString(bytesOf(Sum(p.Data), 4))
		file.WriteString(bytesOf(len(p.Data), 4))
	}
	return file.String(), api.OK
}

func check(p Part) api.Errno {
	switch {
	case !fits(p.Time, 4), !fits(p.More, 1), !fits(p.System, 1):
		return api.ErrArg
	case len(p.Name) > api.MaxName, len(p.Comment) > api.MaxName, len(p.Extra) > longestExtra:
		return api.ErrLong
	case hasEnd(p.Name), hasEnd(p.Comment):
		return api.ErrName
	}
	return api.OK
}

// fits: is a number as wide as so many bytes?
func fits(n, size int) bool {
	return 0 <= n && n < 1<<(8*size)
}

// hasEnd: would a text end ahead of its last byte?
func hasEnd(s string) bool {
	return strings.IndexByte(s, 0) >= 0
}

func headOf(p Part) string {
	texts := []string{
		magic, bytesOf(deflated, 1), bytesOf(flagsOf(p), 1),
		bytesOf(p.Time, 4), bytesOf(p.More, 1), bytesOf(p.System, 1),
	}
	if p.Extra != "" {
		texts = append(texts, bytesOf(len(p.Extra), 2), p.Extra)
	}
	if p.Name != "" {
		texts = append(texts, p.Name, "\x00")
	}
	if p.Comment != "" {
		texts = append(texts, p.Comment, "\x00")
	}
	head := laid(texts)
	if p.HeadSum {
		head += bytesOf(lowSum(head), 2)
	}
	return head
}

func flagsOf(p Part) int {
	flags := 0
	for _, x := range [5]struct {
		set  bool
		flag int
	}{
		{p.Text, textFlag},
		{p.HeadSum, headSumFlag},
		{p.Extra != "", extraFlag},
		{p.Name != "", nameFlag},
		{p.Comment != "", commentFlag},
	} {
		if x.set {
			flags |= x.flag
		}
	}
	return flags
}

// laid: a head into which texts are laid, one behind the other.
func laid(texts []string) string {
	size := 0
	for _, s := range texts {
		size += len(s)
	}
	head := make([]byte, size)
	at := 0
	for _, s := range texts {
		at += copy(head[at:], s)
	}
	return string(head)
}

// bytesOf: a number's bytes, the lower ones first.
func bytesOf(n, size int) string {
	b := make([]byte, size)
	for i := range b {
		b[i] = byte(n >> (8 * i))
	}
	return string(b)
}
