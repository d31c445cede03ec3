package tape

import (
	"archive/tar"
	"io"
	"math/rand/v2"
	"slices"
	"strings"
	"testing"

	"ferret/api"
)

// someFile: one that may be written, names as another program lets them be.
func someFile(c *rand.Rand) File {
	name := func() string { return "n" + strings.Repeat("a", c.IntN(api.MaxName)) }
	f := File{Name: name(), Kind: '0' + byte(c.IntN(7)), Mode: c.IntN(0o10000), Time: c.IntN(1 << 32)}
	switch f.Kind {
	case '0':
		f.Data = some(c, "ab\x00\n", 2000)
		f.Size = len(f.Data)
	case '1', '2':
		f.Link = name()
	case '5':
		f.Name = f.Name[1:] + "/"
	}
	return f
}

// headBytes: by the document's words, each byte at its place.
func headBytes(name, mode, size, time, kind, link string) string {
	pad := func(s string, n int) string { return s + zeros(n-len(s)) }
	h := pad(name, 100) + mode + "\x00" + "0000000\x00" + "0000000\x00" + size + "\x00" + time + "\x00" + "        " + kind + pad(link, 100) + "ustar\x00" + "00"
	h += zeros(512 - len(h))
	sum := 0
	for i := range 512 {
		sum += int(h[i])
	}
	digits := ""
	for range 6 {
		digits = string(rune('0'+sum%8)) + digits
		sum /= 8
	}
	return h[:148] + digits + "\x00 " + h[156:]
}

func TestWriteBytes(t *testing.T) {
	const none = "00000000000"
	n100, n101 := strings.Repeat("n", 100), strings.Repeat("m", 101)
	n256 := strings.Repeat("o", 256)
	pax := func(size string) string { return headBytes("pax", "0000000", size, none, "x", "") }
	for _, x := range []struct {
		name  string
		files []File
		want  string
	}{
		{"none", nil, ""},
		{"the least", []File{{Name: "a", Kind: '0'}}, headBytes("a", "0000000", none, none, "0", "")},
		{"a file", []File{{Name: "a", Kind: '0', Mode: 0o644, Time: 7, Size: 3, Data: "abc"}}, headBytes("a", "0000644", "00000000003", "00000000007", "0", "") + fill("abc")},
		{"the greatest numbers", []File{{Name: "a", Kind: '3', Mode: 0o7777, Time: 1<<32 - 1}}, headBytes("a", "0007777", none, "37777777777", "3", "")},
		{"a whole block", []File{{Name: "a", Kind: '0', Size: 512, Data: strings.Repeat("d", 512)}}, headBytes("a", "0000000", "00000001000", none, "0", "") + strings.Repeat("d", 512)},
		{"a block and a byte", []File{{Name: "a", Kind: '0', Size: 513, Data: strings.Repeat("d", 513)}}, headBytes("a", "0000000", "00000001001", none, "0", "") + fill(strings.Repeat("d", 513))},
		{"a link", []File{{Name: "a", Link: "to", Kind: '1'}}, headBytes("a", "0000000", none, none, "1", "to")},
		{"a plain file's link", []File{{Name: "a", Link: "to", Kind: '0', Size: 1, Data: "d"}}, headBytes("a", "0000000", "00000000001", none, "0", "to") + fill("d")},
		{"two", []File{{Name: "a", Kind: '5'}, {Name: "b", Kind: '6'}}, headBytes("a", "0000000", none, none, "5", "") + headBytes("b", "0000000", none, none, "6", "")},
		{"names of 100", []File{{Name: n100, Link: n100, Kind: '2'}}, headBytes(n100, "0000000", none, none, "2", n100)},
		{"a name of 101", []File{{Name: n101, Link: n100, Kind: '2', Mode: 1, Time: 2}},
			pax("00000000157") + fill("111 path="+n101+"\n") + headBytes(n101[:100], "0000001", none, "00000000002", "2", n100)},
		{"a link of 101", []File{{Name: n100, Link: n101, Kind: '2', Mode: 1, Time: 2}},
			pax("00000000163") + fill("115 linkpath="+n101+"\n") + headBytes(n100, "0000001", none, "00000000002", "2", n101[:100])},
		{"both of 256", []File{{Name: n256, Link: n256, Kind: '2'}, {Name: "b", Kind: '0'}},
			pax("00000001030") + fill("266 path="+n256+"\n270 linkpath="+n256+"\n") + headBytes(n256[:100], "0000000", none, none, "2", n256[:100]) + headBytes("b", "0000000", none, none, "0", "")},
	} {
		if got, err := Write(x.files); got != x.want+zeros(end) || err != api.OK {
			t.Errorf("%s: %d, want\n%q, got\n%q", x.name, err, x.want, got)
		}
	}
}

// A size counts its own digits.
func TestRecordOf(t *testing.T) {
	for n := range 1200 {
		value := strings.Repeat("v", n)
		s := recordOf("k", value)
		if s != record("k", value) {
			t.Errorf("%d: %q", n, s)
		}
	}
}

func TestWriteErrors(t *testing.T) {
	long := strings.Repeat("n", api.MaxName+1)
	good := File{Name: "a", Kind: '0'}
	many := slices.Repeat([]File{good}, api.MaxMembers)
	for _, x := range []struct {
		name  string
		files []File
		want  api.Errno
	}{
		{"too many", append(slices.Clone(many), good), api.ErrArg},
		{"too many, with a long name", append(slices.Clone(many), File{Name: long, Kind: '0'}), api.ErrArg},
		{"too many, the first with a long name", append([]File{{Name: long, Kind: '0'}}, many...), api.ErrArg},
		{"mode below 0", []File{{Name: "a", Kind: '0', Mode: -1}}, api.ErrArg},
		{"mode too great", []File{{Name: "a", Kind: '0', Mode: 0o10000}}, api.ErrArg},
		{"time below 0", []File{{Name: "a", Kind: '0', Time: -1 << 63}}, api.ErrArg},
		{"time too great", []File{{Name: "a", Kind: '0', Time: 1 << 32}}, api.ErrArg},
		{"kind 00", []File{{Name: "a"}}, api.ErrArg},
		{"kind /", []File{{Name: "a", Kind: '/'}}, api.ErrArg},
		{"kind 7", []File{{Name: "a", Kind: '7'}}, api.ErrArg},
		{"kind x", []File{{Name: "a", Kind: 'x'}}, api.ErrArg},
		{"kind L", []File{{Name: "a", Kind: 'L'}}, api.ErrArg},
		{"size too great", []File{{Name: "a", Kind: '0', Size: 4, Data: "abc"}}, api.ErrArg},
		{"size too small", []File{{Name: "a", Kind: '0', Size: 2, Data: "abc"}}, api.ErrArg},
		{"size of a link", []File{{Name: "a", Kind: '2', Size: 1}}, api.ErrArg},
		{"data of a link", []File{{Name: "a", Kind: '2', Size: 3, Data: "abc"}}, api.ErrArg},
		{"kind and name", []File{{Name: long, Kind: 'x'}}, api.ErrArg},
		{"size and no name", []File{{Kind: '0', Size: 1}}, api.ErrArg},
		{"long name", []File{{Name: long, Kind: '0'}}, api.ErrLong},
		{"long link", []File{{Name: "a", Link: long, Kind: '0'}}, api.ErrLong},
		{"long link and no name", []File{{Link: long, Kind: '0'}}, api.ErrLong},
		{"long bad name", []File{{Name: long + "\n", Kind: '0'}}, api.ErrLong},
		{"no name", []File{{Kind: '0'}}, api.ErrName},
		{"00 in a name", []File{{Name: "a\x00", Kind: '0'}}, api.ErrName},
		{"0A in a name", []File{{Name: "\na", Kind: '0'}}, api.ErrName},
		{"00 in a link", []File{{Name: "a", Link: "\x00", Kind: '2'}}, api.ErrName},
		{"0A in a link", []File{{Name: "a", Link: "l\n", Kind: '2'}}, api.ErrName},
		{"0A in a long link", []File{{Name: "a", Link: strings.Repeat("l", 200) + "\n", Kind: '2'}}, api.ErrName},
		{"a bad name, then a wrong number", []File{{Kind: '0'}, {Name: "a", Kind: '0', Mode: -1}}, api.ErrName},
		{"a long name, then a wrong number", []File{good, {Name: long, Kind: '0'}, {Name: "a", Kind: '0', Mode: -1}}, api.ErrLong},
		{"a bad name behind good files", []File{good, good, {Name: "\n", Kind: '0'}}, api.ErrName},
	} {
		if got, err := Write(x.files); got != "" || err != x.want {
			t.Errorf("%s: %d bytes, %d, want %d", x.name, len(got), err, x.want)
		}
	}
	if s, err := Write(many); len(s) != 512*api.MaxMembers+end || err != api.OK {
		t.Errorf("the most files: %d bytes, %d", len(s), err)
	}
}

// Read tells what was written, and so does another program.
func TestReadOfWrite(t *testing.T) {
	c := chance(4)
	for range 300 {
		var files []File
		for range c.IntN(6) {
			f := someFile(c)
			if c.IntN(3) == 0 {
				f.Name = f.Name + "\xff \x01"
			}
			if len(f.Name) > api.MaxName {
				f.Name = f.Name[:api.MaxName]
			}
			files = append(files, f)
		}
		kept := slices.Clone(files)
		archive, err := Write(files)
		if err != api.OK || !slices.Equal(files, kept) {
			t.Fatalf("%v: %d, %v", kept, err, files)
		}
		wantFiles(t, "read again", archive, files...)
		wantFiles(t, "read again without the end", archive[:len(archive)-end], files...)
		r := tar.NewReader(strings.NewReader(archive))
		for _, f := range files {
			h, wrong := r.Next()
			if wrong != nil {
				t.Fatalf("another program: %v of %v", wrong, f)
			}
			data, _ := io.ReadAll(r)
			got := File{Name: h.Name, Link: h.Linkname, Kind: h.Typeflag, Mode: int(h.Mode), Size: int(h.Size), Time: int(h.ModTime.Unix()), Data: string(data)}
			if got != f {
				t.Errorf("another program: %v, want %v", got, f)
			}
		}
		if _, wrong := r.Next(); wrong != io.EOF {
			t.Errorf("another program, at the end: %v", wrong)
		}
	}
	most := slices.Repeat([]File{{Name: strings.Repeat("n", api.MaxName), Link: strings.Repeat("l", api.MaxName), Kind: '1'}}, api.MaxMembers)
	archive, _ := Write(most)
	wantFiles(t, "the most", archive, most...)
}
