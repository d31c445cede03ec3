package suite

import (
	"archive/tar"
	"bytes"
	"compress/gzip"
	"math"
	"slices"
	"strings"
	"testing"

	"ferret/api"
	"ferret/gz"
	"ferret/tape"
)

func file(name, data string) tape.File {
	return tape.File{Name: name, Kind: '0', Mode: 0o644, Size: len(data), Data: data}
}

func archived(t *testing.T, l ...tape.File) string {
	t.Helper()
	archive, err := tape.Write(l)
	if err != api.OK {
		t.Fatalf("%v: %v", l, err)
	}
	return archive
}

func packed(t *testing.T, l ...gz.Part) string {
	t.Helper()
	blob, err := gz.Write(l, nil)
	if err != api.OK {
		t.Fatalf("%v: %v", l, err)
	}
	return blob
}

// inHead: so many bytes 00, with a word at a place.
func inHead(size, place int, word string) string {
	b := make([]byte, size)
	copy(b[place:], word)
	return string(b)
}

// withKind: an archive of one file, of another kind, its sum set right.
func withKind(t *testing.T, kind byte, name, data string) string {
	t.Helper()
	b := []byte(archived(t, file(name, data)))
	b[156] = kind
	sum := int(8 * ' ')
	for i, x := range b[:512] {
		if i < 148 || i >= 156 {
			sum += int(x)
		}
	}
	for i := range 6 {
		b[148+i] = byte('0' + sum>>(3*(5-i))&7)
	}
	return string(b)
}

func one(name, data string) []api.Member { return []api.Member{{Name: name, Data: data}} }

func TestMembersByHand(t *testing.T) {
	three := archived(t, file("a", "hot"), tape.File{Name: "d", Kind: '5'}, file("b", ""), tape.File{Name: "l", Link: "a", Kind: '2'}, file("c/d", "cold\n"))
	ofThree := []api.Member{{Name: "a", Data: "hot"}, {Name: "b"}, {Name: "c/d", Data: "cold\n"}}
	two := packed(t, gz.Part{Name: "x", Data: "ab"}, gz.Part{Name: "y", Data: "c"}, gz.Part{}, gz.Part{Data: "d"})
	half := packed(t, gz.Part{Name: "t", Data: three[:700]}, gz.Part{Data: three[700:]})
	old := withKind(t, 0, "o", "old")
	for _, c := range []struct {
		what            string
		blob            string
		container, most int
		want            []api.Member
	}{
		{"raw", "ab\x00\xFF", Raw, 0, one("", "ab\x00\xFF")},
		{"nothing, raw", "", Raw, 0, one("", "")},
		{"a packed blob, raw", two, Raw, 0, one("", two)},
		{"an archive, raw", three, Raw, 0, one("", three)},

		{"parts", two, Gzip, 4, one("x", "abcd")},
		{"parts, the first without a name", packed(t, gz.Part{Data: "a"}, gz.Part{Name: "y", Data: "c"}), Gzip, 2, one("", "ac")},
		{"nothing, packed", packed(t, gz.Part{Name: "n"}), Gzip, 0, one("n", "")},
		{"a packed archive, unpacked alone", half, Gzip, api.MaxOut, one("t", three)},

		{"an archive", three, Tar, 0, ofThree},
		{"nothing, as an archive", "", Tar, 0, nil},
		{"an archive of nothing", archived(t), Tar, 0, nil},
		{"an archive of no files", archived(t, tape.File{Name: "d", Kind: '5'}), Tar, 0, nil},
		{"a file of the kind 00", old, Tar, 0, one("o", "old")},
		{"a file of the kind 7", withKind(t, '7', "o", "old"), Tar, 0, nil},
		{"two of one name", archived(t, file("a", "1"), file("a", "2")), Tar, 0, []api.Member{{Name: "a", Data: "1"}, {Name: "a", Data: "2"}}},
		{"a long name", archived(t, file(strings.Repeat("n", 256), "1")), Tar, 0, one(strings.Repeat("n", 256), "1")},

		{"a packed archive", half, TarGzip, len(three), ofThree},
		{"a packed archive of nothing", packed(t, gz.Part{Name: "n"}), TarGzip, 0, nil},

		{"raw, by itself", "ab", AutoBlob, 0, one("", "ab")},
		{"nothing, by itself", "", AutoBlob, 0, one("", "")},
		{"one byte of a packed blob's two", "\x1F", AutoBlob, 0, one("", "\x1F")},
		{"the two the other way round", "\x8B\x1F", AutoBlob, 0, one("", "\x8B\x1F")},
		{"the two elsewhere", "a" + two, AutoBlob, 0, one("", "a"+two)},
		{"parts, by themselves", two, AutoBlob, 4, one("x", "abcd")},
		{"a packed archive, by itself", half, AutoBlob, len(three), ofThree},
		{"an archive, by itself", three, AutoBlob, 0, ofThree},
		{"unpacked once", packed(t, gz.Part{Name: "n", Data: two}), AutoBlob, 999, one("n", two)},
		{"a packed archive of a packed one", packed(t, gz.Part{Data: archived(t, file("i", half))}), AutoBlob, 9999, one("i", half)},
		{"an archive of a packed one", archived(t, file("i", half)), AutoBlob, 0, one("i", half)},
		{"an archive of nothing has no mark", archived(t), AutoBlob, 0, one("", archived(t))},

		{"too short for an archive", inHead(511, 257, "ustar"), AutoBlob, 0, one("", inHead(511, 257, "ustar"))},
		{"packed, too short for an archive", packed(t, gz.Part{Data: inHead(511, 257, "ustar")}), AutoBlob, 511, one("", inHead(511, 257, "ustar"))},
		{"a mark ahead of its place", inHead(512, 256, "ustar"), AutoBlob, 0, one("", inHead(512, 256, "ustar"))},
		{"a mark behind its place", inHead(512, 258, "ustar"), AutoBlob, 0, one("", inHead(512, 258, "ustar"))},
		{"not quite the mark", inHead(512, 257, "ustaR"), AutoBlob, 0, one("", inHead(512, 257, "ustaR"))},
		{"packed, not quite the mark", packed(t, gz.Part{Name: "p", Data: inHead(512, 257, "usta")}), AutoBlob, 512, one("p", inHead(512, 257, "usta"))},
	} {
		got, fault := Members(c.blob, c.container, c.most)
		if !slices.Equal(got, c.want) || fault != (api.Fault{}) {
			t.Errorf("%s: %q %v, want %q", c.what, got, fault, c.want)
		}
	}
}

func TestMembersFaults(t *testing.T) {
	archive := archived(t, file("a", "hot"), file("b", "cold"))
	wrong := archive[:1024] + "x" + archive[1025:] // the second head's sum isn't right
	two := packed(t, gz.Part{Data: "ab"}, gz.Part{Data: "cd"})
	first := len(packed(t, gz.Part{Data: "ab"}))
	looks := inHead(512, 257, "ustar")
	for _, c := range []struct {
		what            string
		blob            string
		container, most int
		want            api.Fault
	}{
		{"a container", "a", -1, 9, api.Fault{Code: api.ErrOption}},
		{"a container", "a", 5, 9, api.Fault{Code: api.ErrOption}},
		{"a container", "a", math.MinInt, 9, api.Fault{Code: api.ErrOption}},
		{"a container", "a", math.MaxInt, 9, api.Fault{Code: api.ErrOption}},
		{"most", "a", Raw, -1, api.Fault{Code: api.ErrOption}},
		{"most", "a", Raw, api.MaxOut + 1, api.Fault{Code: api.ErrOption}},
		{"most", "a", Tar, math.MaxInt, api.Fault{Code: api.ErrOption}},
		{"most ahead of the blob", "a", Gzip, math.MinInt, api.Fault{Code: api.ErrOption}},

		{"nothing, packed", "", Gzip, 9, api.Fault{Code: api.ErrMagic}},
		{"nothing, a packed archive", "", TarGzip, 9, api.Fault{Code: api.ErrMagic}},
		{"not packed", archive, TarGzip, 9, api.Fault{Code: api.ErrMagic}},
		{"the two bytes alone", "\x1F\x8B", AutoBlob, 9, api.Fault{Code: api.ErrEnd}},
		{"another method", "\x1F\x8B\x07\x00\x00\x00\x00\x00\x00\x00", AutoBlob, 9, api.Fault{Code: api.ErrMethod, At: 2}},
		{"something behind the parts", two + "x", Gzip, 9, api.Fault{Code: api.ErrMagic, At: len(two)}},
		{"cut off in its sums", two[:first-1], Gzip, 9, api.Fault{Code: api.ErrEnd, At: first - 8}},
		{"a part too much", two, Gzip, 1, longAt(two, 0, 1)},
		{"a part too much, of which most leaves some", two, AutoBlob, 3, longAt(two, first, 1)},
		{"a packed archive too long", packed(t, gz.Part{Data: archive}), TarGzip, len(archive) - 1, longAt(packed(t, gz.Part{Data: archive}), 0, len(archive)-1)},
		{"a packed blob that looks like an archive", "\x1F\x8B" + looks[2:], AutoBlob, 9, api.Fault{Code: api.ErrMethod, At: 2}},

		{"no archive", "a", Tar, 9, api.Fault{Code: api.ErrEnd}},
		{"no archive, packed", packed(t, gz.Part{Data: "a"}), TarGzip, 9, api.Fault{Code: api.ErrEnd}},
		{"a packed blob isn't an archive", two, Tar, 9, api.Fault{Code: api.ErrEnd}},
		{"a wrong sum", wrong, Tar, 9, api.Fault{Code: api.ErrSum, At: 1024 + 148}},
		{"a wrong sum, by itself", wrong, AutoBlob, 9, api.Fault{Code: api.ErrSum, At: 1024 + 148}},
		{"a wrong sum, packed", packed(t, gz.Part{Data: wrong}), TarGzip, 9999, api.Fault{Code: api.ErrSum, At: 1024 + 148}},
		{"a wrong sum, packed, by itself", packed(t, gz.Part{Data: wrong[:900]}, gz.Part{Data: wrong[900:]}), AutoBlob, 9999, api.Fault{Code: api.ErrSum, At: 1024 + 148}},
		{"cut off in the middle of a block", archive[:1024+514], AutoBlob, 9, api.Fault{Code: api.ErrEnd, At: 1024 + 512}},
		{"what looks like an archive and is none", looks, AutoBlob, 9, api.Fault{Code: api.ErrSum, At: 148}},
		{"what looks like an archive and is none, packed", packed(t, gz.Part{Data: looks + "a"}), AutoBlob, 999, api.Fault{Code: api.ErrSum, At: 148}},
	} {
		got, fault := Members(c.blob, c.container, c.most)
		if len(got) > 0 || fault != c.want {
			t.Errorf("%s: %q %v, want %v", c.what, got, fault, c.want)
		}
	}
}

// longAt: layer 5's Fault of a blob's part that stands at a place, as if it stood alone.
func longAt(blob string, place, most int) api.Fault {
	_, fault := gz.Read(blob[place:], most)
	if fault.Code != api.ErrLong {
		return api.Fault{Code: -1}
	}
	fault.At += place
	return fault
}

// TestMembersOfOthers: blobs that other programs have made.
func TestMembersOfOthers(t *testing.T) {
	for _, format := range []tar.Format{tar.FormatUSTAR, tar.FormatPAX, tar.FormatGNU} {
		var want []api.Member
		var archive, blob bytes.Buffer
		w := tar.NewWriter(&archive)
		for _, m := range []api.Member{{Name: "a", Data: "hot"}, {Name: strings.Repeat("long/", 30) + "b", Data: strings.Repeat("x\n", 5000)}, {Name: "c"}} {
			must(t, w.WriteHeader(&tar.Header{Name: m.Name, Typeflag: tar.TypeReg, Mode: 0o600, Size: int64(len(m.Data)), Format: format}))
			_, err := w.Write([]byte(m.Data))
			must(t, err)
			must(t, w.WriteHeader(&tar.Header{Name: m.Name + "/", Typeflag: tar.TypeDir, Format: format}))
			want = append(want, m)
		}
		must(t, w.Close())
		z := gzip.NewWriter(&blob)
		z.Name, z.Comment, z.Extra = "n.tar", "c", []byte("e")
		_, err := z.Write(archive.Bytes())
		must(t, err)
		must(t, z.Close())

		for _, container := range []int{AutoBlob, Tar} {
			if got, fault := Members(archive.String(), container, 0); !slices.Equal(got, want) || fault != (api.Fault{}) {
				t.Errorf("%v as %d: %q %v", format, container, got, fault)
			}
		}
		for _, container := range []int{AutoBlob, TarGzip} {
			if got, fault := Members(blob.String(), container, archive.Len()); !slices.Equal(got, want) || fault != (api.Fault{}) {
				t.Errorf("%v, packed, as %d: %q %v", format, container, got, fault)
			}
		}
		if got, fault := Members(blob.String(), Gzip, api.MaxOut); !slices.Equal(got, one("n.tar", archive.String())) || fault != (api.Fault{}) {
			t.Errorf("%v, unpacked: %q %v", format, got, fault)
		}
	}
}

func must(t *testing.T, err error) {
	t.Helper()
	if err != nil {
		t.Fatal(err)
	}
}

// TestMembersAtTheBounds: as many parts and files as there may be, as many bytes as may be unpacked.
func TestMembersAtTheBounds(t *testing.T) {
	parts := slices.Repeat([]gz.Part{{Name: "n", Data: "a"}}, api.MaxMembers)
	blob := packed(t, parts...)
	if got, fault := Members(blob, AutoBlob, api.MaxMembers); !slices.Equal(got, one("n", strings.Repeat("a", api.MaxMembers))) || fault != (api.Fault{}) {
		t.Errorf("%d members, %v", len(got), fault)
	}
	if got, fault := Members(blob+blob, AutoBlob, api.MaxOut); len(got) > 0 || fault != (api.Fault{Code: api.ErrMany, At: len(blob)}) {
		t.Errorf("%d members, %v", len(got), fault)
	}
	long := packed(t, gz.Part{Data: strings.Repeat("a", api.MaxOut)})
	if got, fault := Members(long, Gzip, api.MaxOut); len(got) != 1 || len(got[0].Data) != api.MaxOut || fault != (api.Fault{}) {
		t.Errorf("%d members, %v", len(got), fault)
	}
	if got, fault := Members(long, Gzip, api.MaxOut-1); len(got) > 0 || fault.Code != api.ErrLong {
		t.Errorf("%d members, %v", len(got), fault)
	}
	if got, fault := Members(strings.Repeat("a", 2*api.MaxOut), AutoBlob, 0); len(got) != 1 || len(got[0].Data) != 2*api.MaxOut || fault != (api.Fault{}) {
		t.Errorf("%d members, %v", len(got), fault)
	}
	all := archived(t, slices.Repeat([]tape.File{file("a", "1")}, api.MaxMembers)...)
	if got, fault := Members(all, AutoBlob, 0); len(got) != api.MaxMembers || fault != (api.Fault{}) {
		t.Errorf("%d members, %v", len(got), fault)
	}
}

func TestMembersAreNew(t *testing.T) {
	blob := archived(t, file("a", "hot"), file("b", "cold"))
	first, _ := Members(blob, AutoBlob, 0)
	second, _ := Members(blob, AutoBlob, 0)
	clear(second[:cap(second)])
	if !slices.Equal(first, []api.Member{{Name: "a", Data: "hot"}, {Name: "b", Data: "cold"}}) {
		t.Errorf("memory is shared: %q", first)
	}
}
