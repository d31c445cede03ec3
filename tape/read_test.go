package tape

import (
	"archive/tar"
	"bytes"
	"maps"
	"slices"
	"strconv"
	"strings"
	"testing"
	"time"

	"ferret/api"
)

// raw is a head, whose fields are laid as they are told: by the place of each.
type raw map[int]string

// bytes of the head, with the sum that they have, unless another one is told.
func (h raw) bytes() string {
	b := make([]byte, 512)
	for _, at := range slices.Sorted(maps.Keys(h)) {
		copy(b[at:], h[at])
	}
	if _, ok := h[148]; !ok {
		copy(b[148:], "        ")
		sum := 0
		for _, x := range b {
			sum += int(x)
		}
		copy(b[148:], octal(sum, 6)+"\x00 ")
	}
	return string(b)
}

// with: that head with another field.
func (h raw) with(at int, s string) raw {
	other := raw{at: s}
	for k, v := range h {
		if k != at {
			other[k] = v
		}
	}
	return other
}

// member: a head of a kind with a name, and its data, filled up.
func member(kind byte, name, data string) string {
	return raw{0: name, 124: octal(len(data), 11), 156: string(rune(kind))}.bytes() + fill(data)
}

func fill(data string) string {
	for len(data)%512 > 0 {
		data += "\x00"
	}
	return data
}

const end = 1024

func zeros(n int) string {
	return strings.Repeat("\x00", n)
}

func wantFiles(t *testing.T, name, data string, want ...File) {
	t.Helper()
	if got, f := Read(data); !slices.Equal(got, want) || f != (api.Fault{}) {
		t.Errorf("%s: %v, %v, want %v", name, got, f, want)
	}
}

func wantFault(t *testing.T, name, data string, code api.Errno, at int) {
	t.Helper()
	if got, f := Read(data); len(got) > 0 || f != (api.Fault{Code: code, At: at}) {
		t.Errorf("%s: %d files, %v, want %d at %d", name, len(got), f, code, at)
	}
}

func plainFile(name, data string) File {
	return File{Name: name, Kind: '0', Size: len(data), Data: data}
}

func TestReadEnd(t *testing.T) {
	a, b := member('0', "a", "abc"), member('0', "b", "")
	wantFiles(t, "nothing", "")
	wantFiles(t, "a block of 00", zeros(512))
	wantFiles(t, "two blocks of 00", zeros(end))
	wantFiles(t, "anything behind a block of 00", zeros(512)+"x")
	wantFiles(t, "a member behind a block of 00", zeros(512)+a)
	wantFiles(t, "no block of 00", a, plainFile("a", "abc"))
	wantFiles(t, "two members", a+b+zeros(end), plainFile("a", "abc"), plainFile("b", ""))
	wantFiles(t, "a member, 00, a member", a+zeros(512)+b, plainFile("a", "abc"))
	wantFiles(t, "nothing fills up", a[:515], plainFile("a", "abc"))
	wantFiles(t, "something fills up", a[:1023], plainFile("a", "abc"))
	wantFiles(t, "what fills up may be anything", a[:515]+strings.Repeat("x", 509)+b, plainFile("a", "abc"), plainFile("b", ""))
	wantFault(t, "a block of 00 is cut", a+zeros(511), api.ErrEnd, 1024)
	wantFault(t, "one byte", "x", api.ErrEnd, 0)
	wantFault(t, "one byte 00", "\x00", api.ErrEnd, 0)
	wantFault(t, "a head is cut", a+b[:511], api.ErrEnd, 1024)
	wantFault(t, "data is cut", a[:514], api.ErrEnd, 512)
	wantFault(t, "no data", a[:512], api.ErrEnd, 512)
	wantFault(t, "no data of the second one", b+a[:512], api.ErrEnd, 1024)
	wantFault(t, "a head without a sum", zeros(511)+"x", api.ErrSum, 148)
	whole := strings.Repeat("d", 1024)
	wantFiles(t, "whole blocks", member('0', "a", whole)+b, plainFile("a", whole), plainFile("b", ""))
	wantFault(t, "whole blocks, cut", member('0', "a", whole)[:1535], api.ErrEnd, 512)
}

func TestReadFields(t *testing.T) {
	full := strings.Repeat("n", 100)
	prefix := strings.Repeat("p", 155)
	h := raw{0: "name", 124: "3", 156: "0"}
	file := plainFile("name", "abc")
	for _, x := range []struct {
		name string
		head raw
		want func(f *File)
	}{
		{"the least", h, func(f *File) {}},
		{"kind 00", h.with(156, "\x00"), func(f *File) {}},
		{"mode", h.with(100, "0000644\x00"), func(f *File) { f.Mode = 0o644 }},
		{"a mode of all its bytes", h.with(100, "77777777"), func(f *File) { f.Mode = 0o77777777 }},
		{"time", h.with(136, "00000000012 "), func(f *File) { f.Time = 10 }},
		{"time as bytes", h.with(136, "\x80\x00\x00\x00\x00\x00\x00\x00\x00\x00\x01\x00"), func(f *File) { f.Time = 256 }},
		{"size as bytes", h.with(124, "\x80\x00\x00\x00\x00\x00\x00\x00\x00\x00\x00\x03"), func(f *File) {}},
		{"a name of all its bytes", h.with(0, full), func(f *File) { f.Name = full }},
		{"no name", h.with(0, ""), func(f *File) { f.Name = "" }},
		{"a name up to 00", h.with(0, "na\x00me"), func(f *File) { f.Name = "na" }},
		{"link", h.with(157, "link"), func(f *File) { f.Link = "link" }},
		{"a link of all its bytes", h.with(157, full), func(f *File) { f.Link = full }},
		{"a link up to 00", h.with(157, "\x00link"), func(f *File) {}},
		{"prefix without a mark", h.with(345, "pre"), func(f *File) {}},
		{"prefix with another mark", h.with(345, "pre").with(257, "ustaR\x00"), func(f *File) {}},
		{"prefix with a mark further on", h.with(345, "pre").with(258, "ustar"), func(f *File) {}},
		{"prefix", h.with(345, "pre").with(257, "ustar\x0000"), func(f *File) { f.Name = "pre/name" }},
		{"prefix, the mark goes on otherwise", h.with(345, "pre").with(257, "ustar  \x00"), func(f *File) { f.Name = "pre/name" }},
		{"prefix, no name", h.with(345, "pre").with(257, "ustar\x0000").with(0, ""), func(f *File) { f.Name = "pre/" }},
		{"prefix up to 00", h.with(345, "p\x00re").with(257, "ustar\x0000"), func(f *File) { f.Name = "p/name" }},
		{"a prefix of no text", h.with(345, "\x00re").with(257, "ustar\x0000"), func(f *File) {}},
		{"all of prefix and name", h.with(345, prefix+"x").with(0, full).with(257, "ustar\x0000"), func(f *File) { f.Name = prefix + "/" + full }},
		{"bytes of other fields", h.with(108, "\xff\xff").with(265, "who").with(500, "more"), func(f *File) {}},
		{"blanks in the sum's field", h.with(148, "  "+octal(sumOf(h.bytes()), 5)+" "), func(f *File) {}},
		{"a sum as bytes", h.with(148, "\x80\x00\x00\x00\x00\x00"+string([]byte{byte(sumOf(h.bytes()) >> 8), byte(sumOf(h.bytes()))})), func(f *File) {}},
	} {
		want := file
		x.want(&want)
		wantFiles(t, x.name, x.head.bytes()+fill("abc")+member('0', "b", ""), want, plainFile("b", ""))
	}
}

func TestReadKinds(t *testing.T) {
	behind := member('0', "b", "")
	for kind := range 256 {
		k := byte(kind)
		h := raw{0: "name", 124: "3", 156: string([]byte{k})}.bytes()
		want := File{Name: "name", Kind: k, Size: 3}
		switch {
		case k == 0 || k == '0':
			want.Kind, want.Data = '0', "abc"
		case k == 'x' || k == 'g' || k == 'L':
			continue
		case k >= '1' && k <= '6':
			wantFiles(t, "a kind without data", h+behind, want, plainFile("b", ""))
			wantFault(t, "data of a kind without data", h+fill("abc")+behind, api.ErrSum, 512+148)
			continue
		}
		wantFiles(t, "a kind with data", h+fill("abc")+behind, want, plainFile("b", ""))
		wantFault(t, "a kind with data that are wanting", h+"ab", api.ErrEnd, 512)
	}
}

func TestReadFaultsOfAHead(t *testing.T) {
	h := raw{0: "name", 156: "0"}
	sum := octal(sumOf(h.bytes()), 6)
	ahead := member('5', "d", "")
	for _, x := range []struct {
		name string
		data string
		code api.Errno
		at   int
	}{
		{"a sum that is none", h.with(148, "x").bytes(), api.ErrNumber, 148},
		{"no sum", h.with(148, "").bytes(), api.ErrSum, 148},
		{"another sum", h.with(148, octal(sumOf(h.bytes())+1, 6)).bytes(), api.ErrSum, 148},
		{"another byte of the head", h.with(148, sum).with(511, "x").bytes(), api.ErrSum, 148},
		{"a byte of 80 counts as such", h.with(148, octal(sumOf(h.bytes())-128, 6)).with(511, "\x80").bytes(), api.ErrSum, 148},
		{"size", h.with(124, "x").bytes(), api.ErrNumber, 124},
		{"mode", h.with(100, "x").bytes(), api.ErrNumber, 100},
		{"time", h.with(136, "x").bytes(), api.ErrNumber, 136},
		{"a size above 2^40", h.with(124, "\x80\x00\x00\x00\x00\x00\x01\x00\x00\x00\x00\x01").bytes(), api.ErrNumber, 124},
		{"a size of 2^40", h.with(124, "\x80\x00\x00\x00\x00\x00\x01\x00\x00\x00\x00\x00").bytes(), api.ErrEnd, 512},
		{"a time below 0", h.with(136, "\xff\xff\xff\xff\xff\xff\xff\xff\xff\xff\xff\xff").bytes(), api.ErrNumber, 136},
		{"size, mode, time", h.with(124, "8").with(100, "8").with(136, "8").bytes(), api.ErrNumber, 124},
		{"mode, time", h.with(100, "8").with(136, "8").bytes(), api.ErrNumber, 100},
		{"mode, and no data", h.with(124, "7").with(100, "8").bytes(), api.ErrNumber, 100},
		{"time, and no data", h.with(124, "7").with(136, "8").bytes(), api.ErrNumber, 136},
		{"no sum, and size", h.with(148, "8").with(124, "8").bytes(), api.ErrNumber, 148},
		{"another sum, and size", h.with(148, "7").with(124, "8").bytes(), api.ErrSum, 148},
		{"size of a link", h.with(156, "2").with(124, "8").bytes(), api.ErrNumber, 124},
		{"size of an x", h.with(156, "x").with(124, "8").bytes(), api.ErrNumber, 124},
		{"mode of a g", h.with(156, "g").with(100, "8").bytes(), api.ErrNumber, 100},
		{"time of an L", h.with(156, "L").with(136, "8").bytes(), api.ErrNumber, 136},
		{"an x that is cut", member('x', "", "6 a=b\n")[:517], api.ErrEnd, 512},
		{"a g that is cut", member('g', "", "6 a=b\n")[:517], api.ErrEnd, 512},
		{"an L that is cut", member('L', "", "6 a=b\n")[:517], api.ErrEnd, 512},
		{"a cut x of another form", member('x', "", "6 a=bb")[:517], api.ErrEnd, 512},
		{"an x of another form", member('x', "", "6 a=bb"), api.ErrForm, 512},
		{"a g of another form", member('g', "", "x"), api.ErrForm, 512},
		{"an x that counts what fills it up", member('x', "", "6 a=b\n\x00"), api.ErrForm, 512},
	} {
		wantFault(t, x.name, x.data, x.code, x.at)
		wantFault(t, x.name+", behind another one", ahead+x.data, x.code, x.at+512)
	}
}

// record tries each size, up to the one that it has then.
func record(key, value string) string {
	for size := 1; ; size++ {
		if s := strconv.Itoa(size) + " " + key + "=" + value + "\n"; len(s) == size {
			return s
		}
	}
}

func TestReadExtended(t *testing.T) {
	x := func(records ...string) string { return member('x', "pax", strings.Join(records, "")) }
	g := func(records ...string) string { return member('g', "pax", strings.Join(records, "")) }
	l := func(name string) string { return member('L', "long", name) }
	a, b, c := member('0', "a", "abc"), member('0', "b", ""), member('0', "c", "")
	ustar := raw{0: "a", 156: "0", 257: "ustar\x0000", 345: "pre"}.bytes()
	link := raw{0: "l", 156: "2", 157: "to"}.bytes()
	long := strings.Repeat("n", api.MaxName)
	at := func(name string, size, time int, data string) File {
		return File{Name: name, Kind: '0', Size: size, Time: time, Data: data}
	}
	fileB, fileC := plainFile("b", ""), plainFile("c", "")
	for _, w := range []struct {
		name string
		data string
		want []File
	}{
		{"x with nothing", x() + a + b, []File{plainFile("a", "abc"), fileB}},
		{"x with other keys", x(record("uid", "7"), record("Path", "z"), record("path ", "z"), record("mtim", "x")) + a + b, []File{plainFile("a", "abc"), fileB}},
		{"x's path, for one member alone", x(record("path", "new")) + a + b, []File{plainFile("new", "abc"), fileB}},
		{"an empty path is told", x(record("path", "")) + a + b, []File{plainFile("", "abc"), fileB}},
		{"a path has any bytes", x(record("path", "\x00=\n\xff")) + a + b, []File{plainFile("\x00=\n\xff", "abc"), fileB}},
		{"the last path of an x", x(record("path", "one"), record("path", "two")) + a + b, []File{plainFile("two", "abc"), fileB}},
		{"the last path of two x", x(record("path", "one")) + x(record("path", "two")) + a + b, []File{plainFile("two", "abc"), fileB}},
		{"two x tell together", x(record("path", "one"), record("mtime", "5")) + x(record("mtime", "6")) + a + b, []File{at("one", 3, 6, "abc"), fileB}},
		{"a path is ahead of the prefix", x(record("path", "new")) + ustar + b, []File{plainFile("new", ""), fileB}},
		{"x, and no member", a + x(record("path", "new")), []File{plainFile("a", "abc")}},
		{"x, and the end", a + x(record("path", "new")) + zeros(512), []File{plainFile("a", "abc")}},
		{"g's path, for all further ones", b + g(record("path", "new")) + a + c, []File{fileB, plainFile("new", "abc"), plainFile("new", "")}},
		{"x's path ahead of g's", g(record("path", "all")) + x(record("path", "new")) + a + b, []File{plainFile("new", "abc"), plainFile("all", "")}},
		{"x's path ahead of g's, whichever comes first", x(record("path", "new")) + g(record("path", "all")) + a + b, []File{plainFile("new", "abc"), plainFile("all", "")}},
		{"the last path of two g", g(record("path", "one"), record("mtime", "5")) + a + g(record("path", "two")) + b, []File{at("one", 3, 5, "abc"), at("two", 0, 5, "")}},
		{"g's path is ahead of the prefix", g(record("path", "all")) + ustar, []File{plainFile("all", "")}},
		{"g's empty path", g(record("path", "")) + ustar, []File{plainFile("", "")}},
		{"L's name, for one member alone", l("new\x00") + a + b, []File{plainFile("new", "abc"), fileB}},
		{"L's name without 00", l("new") + a + b, []File{plainFile("new", "abc"), fileB}},
		{"L's name up to 00", l("new\x00er") + a + b, []File{plainFile("new", "abc"), fileB}},
		{"L's empty name", l("") + a + b, []File{plainFile("", "abc"), fileB}},
		{"the last L", l("one") + l("two") + a + b, []File{plainFile("two", "abc"), fileB}},
		{"L ahead of g", g(record("path", "all")) + l("new") + a + b, []File{plainFile("new", "abc"), plainFile("all", "")}},
		{"L ahead of a later g", l("new") + g(record("path", "all")) + a + b, []File{plainFile("new", "abc"), plainFile("all", "")}},
		{"x ahead of L", x(record("path", "one")) + l("two") + a + b, []File{plainFile("one", "abc"), fileB}},
		{"x ahead of L, whichever comes first", l("two") + x(record("path", "one")) + a + b, []File{plainFile("one", "abc"), fileB}},
		{"x that tells no path leaves it to L", x(record("mtime", "5")) + l("two") + a + b, []File{at("two", 3, 5, "abc"), fileB}},
		{"L is ahead of the prefix", l("new") + ustar, []File{plainFile("new", "")}},
		{"x goes with a member of any kind", x(record("path", "new"), record("linkpath", "old")) + link + link, []File{{Name: "new", Link: "old", Kind: '2'}, {Name: "l", Link: "to", Kind: '2'}}},
		{"g's linkpath", g(record("linkpath", "all")) + link + x(record("linkpath", "")) + link + a, []File{{Name: "l", Link: "all", Kind: '2'}, {Name: "l", Kind: '2'}, {Name: "a", Link: "all", Kind: '0', Size: 3, Data: "abc"}}},
		{"x's size", x(record("size", "1")) + a + b, []File{at("a", 1, 0, "a"), fileB}},
		{"x's size of more blocks", x(record("size", "513")) + a + b + c, []File{at("a", 513, 0, fill("abc")+"b"), fileC}},
		{"x's size with noughts", x(record("size", "000000000003")) + a + b, []File{plainFile("a", "abc"), fileB}},
		{"x's size of nothing", x(record("size", "0")) + a[:512] + b, []File{plainFile("a", ""), fileB}},
		{"x's size of a link", x(record("size", "7")) + link + b, []File{{Name: "l", Link: "to", Kind: '2', Size: 7}, fileB}},
		{"g's size", g(record("size", "1")) + a + x(record("size", "3")) + a, []File{at("a", 1, 0, "a"), plainFile("a", "abc")}},
		{"g's size isn't an L's or an x's", g(record("size", "0")) + l("two") + x(record("mtime", "5")) + a[:512], []File{at("two", 0, 5, "")}},
		{"x's mtime", x(record("mtime", "12345")) + a + b, []File{at("a", 3, 12345, "abc"), fileB}},
		{"x's mtime with a point", x(record("mtime", "12345.6789")) + a + b, []File{at("a", 3, 12345, "abc"), fileB}},
		{"a point and nothing", x(record("mtime", "5.")) + a + b, []File{at("a", 3, 5, "abc"), fileB}},
		{"a point and anything", x(record("mtime", "5.-x.1")) + a + b, []File{at("a", 3, 5, "abc"), fileB}},
		{"12 digits of mtime", x(record("mtime", "999999999999.9999999999999")) + a + b, []File{at("a", 3, 999999999999, "abc"), fileB}},
		{"g's mtime", g(record("mtime", "7")) + a + x(record("mtime", "8")) + b, []File{at("a", 3, 7, "abc"), at("b", 0, 8, "")}},
		{"an overruled mtime isn't asked", g(record("mtime", "x")) + x(record("mtime", "8"), record("size", "0")) + b, []File{at("b", 0, 8, "")}},
		{"an overruled size isn't asked", x(record("size", "x"), record("size", "3")) + a, []File{plainFile("a", "abc")}},
		{"what is told isn't asked without a member", g(record("mtime", "x"), record("size", "x")), nil},
		{"the longest names", x(record("path", long), record("linkpath", long)) + a, []File{{Name: long, Link: long, Kind: '0', Size: 3, Data: "abc"}}},
		{"the longest name of an L", l(long+"\x00"+long) + a, []File{plainFile(long, "abc")}},
		{"all in blocks", x(record("path", "new"), record("comment", strings.Repeat("c", 2000))) + a + b, []File{plainFile("new", "abc"), fileB}},
	} {
		wantFiles(t, w.name, w.data, w.want...)
	}
}

func TestReadFaultsOfMembers(t *testing.T) {
	x := func(records ...string) string { return member('x', "pax", strings.Join(records, "")) }
	g := func(records ...string) string { return member('g', "pax", strings.Join(records, "")) }
	a := member('0', "a", "abc")
	link := raw{0: "l", 156: "2", 157: "to"}.bytes()
	tooLong := strings.Repeat("n", api.MaxName+1)
	h := raw{0: "name", 156: "0"}
	for _, w := range []struct {
		name, ahead, member string
		code                api.Errno
		at                  int // from the member on
	}{
		{"an empty size", x(record("size", "")), a, api.ErrNumber, 124},
		{"a size that is none", x(record("size", "x")), a, api.ErrNumber, 124},
		{"a size below 0", x(record("size", "-1")), a, api.ErrNumber, 124},
		{"a size with a sign", x(record("size", "+1")), a, api.ErrNumber, 124},
		{"a size with a blank", x(record("size", " 1")), a, api.ErrNumber, 124},
		{"a size with a point", x(record("size", "1.0")), a, api.ErrNumber, 124},
		{"a size of 13 digits", x(record("size", "0000000000001")), a, api.ErrNumber, 124},
		{"a size of 12 digits", x(record("size", "999999999999")), a, api.ErrEnd, 512},
		{"a size of very many digits", x(record("size", strings.Repeat("9", 99))), a, api.ErrNumber, 124},
		{"g's size", g(record("size", "x")), a, api.ErrNumber, 124},
		{"a size of a link", x(record("size", "x")), link, api.ErrNumber, 124},
		{"a size of which data are wanting", x(record("size", "513")), a, api.ErrEnd, 512},
		{"an empty mtime", x(record("mtime", "")), a, api.ErrNumber, 136},
		{"a point alone", x(record("mtime", ".")), a, api.ErrNumber, 136},
		{"a point ahead", x(record("mtime", ".5")), a, api.ErrNumber, 136},
		{"an mtime below 0", x(record("mtime", "-5.5")), a, api.ErrNumber, 136},
		{"an mtime that is none", x(record("mtime", "5x.5")), a, api.ErrNumber, 136},
		{"an mtime of 13 digits", x(record("mtime", "0000000000001")), a, api.ErrNumber, 136},
		{"g's mtime", g(record("mtime", "5,5")), a, api.ErrNumber, 136},
		{"size and mtime", x(record("mtime", "x"), record("size", "x")), a, api.ErrNumber, 124},
		{"size, and the field's time", x(record("size", "x")), h.with(136, "x").bytes(), api.ErrNumber, 136},
		{"size, and the field's mode", x(record("size", "x")), h.with(100, "x").bytes(), api.ErrNumber, 100},
		{"the field's size, though another is told", x(record("size", "0")), h.with(124, "x").bytes(), api.ErrNumber, 124},
		{"the field's time, though another is told", x(record("mtime", "0")), h.with(136, "x").bytes(), api.ErrNumber, 136},
		{"mtime, and no data", x(record("mtime", "x"), record("size", "9999")), a, api.ErrNumber, 136},
		{"a long path", x(record("path", tooLong)), a, api.ErrLong, 0},
		{"a long path of g", g(record("path", tooLong)), a, api.ErrLong, 0},
		{"a long name of L", member('L', "", tooLong), a, api.ErrLong, 0},
		{"a long linkpath", x(record("linkpath", tooLong)), a, api.ErrLong, 0},
		{"a long linkpath of g", g(record("linkpath", tooLong)), link, api.ErrLong, 0},
		{"a long path, and no data", x(record("path", tooLong), record("size", "9999")), a, api.ErrEnd, 512},
		{"a long path, and size", x(record("path", tooLong), record("size", "x")), a, api.ErrNumber, 124},
	} {
		wantFault(t, w.name, w.ahead+w.member, w.code, len(w.ahead)+w.at)
		wantFault(t, w.name+", behind another one", a+w.ahead+w.member, w.code, len(a+w.ahead)+w.at)
	}
}

func TestReadMany(t *testing.T) {
	one := member('5', "d", "")
	most := strings.Repeat(one, api.MaxMembers)
	if l, f := Read(most + zeros(end)); len(l) != api.MaxMembers || f != (api.Fault{}) {
		t.Errorf("%d files, %v", len(l), f)
	}
	tooLong := member('L', "", strings.Repeat("n", 300))
	wantFault(t, "one more", most+one, api.ErrMany, len(most))
	wantFault(t, "one more, with a long name", most+tooLong+one, api.ErrMany, len(most+tooLong))
	wantFault(t, "one more, without its data", most+member('0', "a", "abc")[:512], api.ErrEnd, len(most)+512)
	wantFault(t, "one more, of another sum", most+"x"+one[1:], api.ErrSum, len(most)+148)
	told := member('x', "", record("size", "x"))
	wantFault(t, "one more, of another size", most+told+one, api.ErrNumber, len(most+told)+124)
	more := most + tooLong + member('x', "", record("path", "p")) + member('g', "", record("path", "p"))
	if l, f := Read(more); len(l) != api.MaxMembers || f != (api.Fault{}) {
		t.Errorf("heads that are no members: %d files, %v", len(l), f)
	}
}

// What another program archives.
func TestReadOfAnotherProgram(t *testing.T) {
	c := chance(3)
	formats := []tar.Format{tar.FormatUSTAR, tar.FormatPAX, tar.FormatGNU}
	for i := range 120 {
		format := formats[i%3]
		var b bytes.Buffer
		w := tar.NewWriter(&b)
		var want []File
		for range 1 + c.IntN(5) {
			f := someFile(c)
			if f.Kind != '0' && len(f.Link) > 100 && format != tar.FormatPAX {
				f.Link = f.Link[:100]
			}
			if format == tar.FormatUSTAR && len(f.Name) > 100 {
				f.Name = strings.Repeat("p", len(f.Name)-101) + "/" + strings.Repeat("n", 100)
			}
			h := &tar.Header{Typeflag: f.Kind, Name: f.Name, Linkname: f.Link, Mode: int64(f.Mode), Size: int64(f.Size), ModTime: time.Unix(int64(f.Time), 0), Format: format}
			if format == tar.FormatPAX && c.IntN(2) == 0 {
				h.ModTime = time.Unix(int64(f.Time), 500)
			}
			if err := w.WriteHeader(h); err != nil {
				t.Fatal(err, f)
			}
			w.Write([]byte(f.Data))
			want = append(want, f)
		}
		w.Close()
		wantFiles(t, format.String(), b.String(), want...)
	}
}

// An answer is new memory.
func TestReadTwice(t *testing.T) {
	archive := member('0', "a", "abc")
	first, _ := Read(archive)
	second, _ := Read(archive)
	first[0].Name = "changed"
	if second[0].Name != "a" {
		t.Error("two answers share their memory")
	}
	one, _ := Records("6 a=b\n")
	two, _ := Records("6 a=b\n")
	one[0][0] = "changed"
	if two[0][0] != "a" {
		t.Error("two answers share their memory")
	}
}
