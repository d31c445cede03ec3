package tape

import (
	"strconv"
	"strings"

	"ferret/api"
)

const (
	greatestMode = 0o7777
	greatestTime = 1<<32 - 1

	extendedName = "pax"
)

// Write: an archive of members.
func Write(files []File) (string, api.Errno) {
	if len(files) > api.MaxMembers {
		return "", api.ErrArg
	}
	for _, f := range files {
		if err := check(f); err != api.OK {
			return "", err
		}
	}
	var archive strings.Builder
	for _, f := range files {
		if records := recordsOf(f); records != "" {
			archive.WriteString(headOf(File{Name: extendedName, Kind: extended, Size: len(records)}))
			archive.WriteString(padded(records))
		}
		archive.WriteString(headOf(f))
		archive.WriteString(padded(f.Data))
	}
	archive.WriteString(noughts(2 * block))
	return archive.String(), api.OK
}

func check(f File) api.Errno {
	switch {
	case f.Mode < 0 || f.Mode > greatestMode,
		f.Time < 0 || f.Time > greatestTime,
		f.Kind != plain && !hasNoData(f.Kind),
		f.Size != len(f.Data),
		f.Data != "" && f.Kind != plain:
		return api.ErrArg
	case len(f.Name) > api.MaxName, len(f.Link) > api.MaxName:
		return api.ErrLong
	case f.Name == "", hasBadByte(f.Name), hasBadByte(f.Link):
		return api.ErrName
	}
	return api.OK
}

func hasBadByte(s string) bool {
	return strings.ContainsAny(s, "\x00\n")
}

// recordsOf: those of the texts that find no room in their fields.
func recordsOf(f File) string {
	records := ""
	if len(f.Name) > nameField.size() {
		records += recordOf("path", f.Name)
	}
	if len(f.Link) > linkField.size() {
		records += recordOf("linkpath", f.Link)
	}
	return records
}

func recordOf(key, value string) string {
	rest := " " + key + "=" + value + "\n"
	// The size counts its own digits, and with them it may get one digit more.
	size := len(rest)
	for size < len(rest)+len(strconv.Itoa(size)) {
		size = len(rest) + len(strconv.Itoa(size))
	}
	return strconv.Itoa(size) + rest
}

func headOf(f File) string {
	head := make([]byte, block)
	nameField.lay(head, f.Name)
	modeField.layNumber(head, f.Mode)
	ownerField.layNumber(head, 0)
	groupField.layNumber(head, 0)
	sizeField.layNumber(head, f.Size)
	timeField.layNumber(head, f.Time)
	head[kindField.From] = f.Kind
	linkField.lay(head, f.Link)
	copy(head[markField.From:], mark+markTail)
	sumField.lay(head, octal(sumOf(string(head)), sumDigits)+"\x00 ")
	return string(head)
}

// padded: data, filled up to blocks.
func padded(data string) string {
	return data + noughts(filled(len(data))-len(data))
}

func noughts(n int) string {
	return strings.Repeat("\x00", n)
}
