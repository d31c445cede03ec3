package suite

import (
	"strings"

	"ferret/api"
	"ferret/gz"
	"ferret/tape"
)

// How an archive looks: in its first block a mark stands at a place.
const (
	block     = 512
	mark      = "ustar"
	markPlace = 257
)

const plainFile = '0' // the kind of tape's files that are members

// isPacked: is a blob to be unpacked?
func isPacked(blob string, container int) bool {
	switch container {
	case Gzip, TarGzip:
		return true
	case AutoBlob:
		return gz.Is(blob)
	}
	return false
}

// isArchive: is a blob, unpacked where it was packed, to be read as an archive?
func isArchive(data string, container int) bool {
	switch container {
	case Tar, TarGzip:
		return true
	case AutoBlob:
		return len(data) >= block && strings.HasPrefix(data[markPlace:], mark)
	}
	return false
}

// unpack: all parts of a packed blob as one member.
func unpack(blob string, most int) (api.Member, api.Fault) {
	parts, met := gz.Read(blob, most)
	if met != (api.Fault{}) {
		return api.Member{}, met
	}
	var data strings.Builder
	for _, part := range parts {
		data.WriteString(part.Data)
	}
	return api.Member{Name: parts[0].Name, Data: data.String()}, api.Fault{}
}

// files: the members of an archive.
func files(archive string) ([]api.Member, api.Fault) {
	all, met := tape.Read(archive)
	if met != (api.Fault{}) {
		return nil, met
	}
	var members []api.Member
	for _, file := range all {
		if file.Kind == plainFile {
			members = append(members, api.Member{Name: file.Name, Data: file.Data})
		}
	}
	return members, api.Fault{}
}
