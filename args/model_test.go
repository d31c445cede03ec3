package args

import (
	"math/rand/v2"
	"regexp"
	"slices"
	"strconv"
	"strings"
	"testing"

	"ferret/api"
	"ferret/suite"
)

// The model reads texts by the chapter's words, with the library's patterns, and keeps them by their keys.

var (
	oneNumber = regexp.MustCompile(`^(0|-?[1-9][0-9]{0,17})\z`)
	oneChoice = regexp.MustCompile(`^(yes|no)\z`)
)

// asItShould: is a value of the kind that its key has?
func asItShould(key, value string) bool {
	switch {
	case slices.Contains(numberKeys, key):
		return oneNumber.MatchString(value)
	case slices.Contains(choiceKeys, key):
		return oneChoice.MatchString(value)
	}
	return slices.Contains(textKeys, key)
}

// parseByWords: the values by their keys.
func parseByWords(s string) (map[string]string, api.Fault) {
	l, fault := unpackByWords(s)
	if fault != (api.Fault{}) {
		return nil, fault
	}
	values := map[string]string{}
	for i := 0; i < len(l); i += 2 {
		_, twice := values[l[i]]
		if twice || i+1 == len(l) || !asItShould(l[i], l[i+1]) {
			return nil, wordAt(i)
		}
		values[l[i]] = l[i+1]
	}
	return values, api.Fault{}
}

// optionsOf: what values ask for, and the blob.
func optionsOf(values map[string]string) (suite.Options, string) {
	number := func(key string) int { n, _ := strconv.Atoi(values[key]); return n }
	var o suite.Options
	o.Container, o.Coding, o.Mode, o.Most, o.Engine.States = number("container"), number("coding"), number("mode"), number("most"), number("states")
	isYes := func(key string) bool { return values[key] == "yes" }
	o.Strict, o.Invert, o.Multi, o.Named = isYes("strict"), isYes("invert"), isYes("multi"), isYes("named")
	o.Flags.Fold, o.Flags.Lines, o.Flags.Dot, o.Flags.Lazy = isYes("fold"), isYes("lines"), isYes("dot"), isYes("short")
	o.Engine.Lazy, o.Engine.Words = isYes("lazy"), isYes("words")
	o.Pattern, o.Template = values["pattern"], values["template"]
	return o, values["blob"]
}

// showByWords: the keys in order, but those whose values are zero.
func showByWords(values map[string]string) string {
	var l []string
	for _, key := range slices.Concat(numberKeys, choiceKeys, textKeys) {
		if v := values[key]; v != "" && (v != "0" || !slices.Contains(numberKeys, key)) && (v != "no" || !slices.Contains(choiceKeys, key)) {
			l = append(l, key, v)
		}
	}
	return Pack(l)
}

// runByWords: what layer 24 tells, told by one text.
func runByWords(o suite.Options, blob string) string {
	told, fault := suite.Run(blob, o)
	return Pack([]string{told, strconv.Itoa(int(fault.Code)), strconv.Itoa(fault.Member), strconv.Itoa(fault.At)})
}

func checkText(t *testing.T, s string) api.Fault {
	t.Helper()
	values, wrong := parseByWords(s)
	want, bytes := optionsOf(values)
	o, blob, fault := Parse(s)
	if o != want || blob != bytes || fault != wrong {
		t.Fatalf("%q: %+v %q %v, want %+v %q %v", s, o, blob, fault, want, bytes, wrong)
	}
	report := ""
	if fault == (api.Fault{}) {
		report = runByWords(o, blob)
		if got := Show(o, blob); got != showByWords(values) {
			t.Fatalf("%q: shown %q, want %q", s, got, showByWords(values))
		}
		if again, bytes, fault := Parse(Show(o, blob)); again != o || bytes != blob || fault != (api.Fault{}) {
			t.Fatalf("%q: read again %+v %q %v, want %+v %q", s, again, bytes, fault, o, blob)
		}
	}
	if got, met := Run(s); got != report || met != wrong {
		t.Fatalf("%q: %q %v, want %q %v", s, got, met, report, wrong)
	}
	return fault
}

func pick[T any](r *rand.Rand, l ...T) T { return l[r.IntN(len(l))] }

func someValue(r *rand.Rand, key string) string {
	switch key {
	case "container", "coding", "mode":
		return strconv.Itoa(r.IntN(6) - r.IntN(8)/7)
	case "most", "states":
		return strconv.Itoa(pick(r, 0, 9, 99, 99, api.MaxOut, api.MaxOut+1, -1, r.IntN(1<<40)))
	case "pattern":
		return pick(r, "", "a", "b+", "(a|ab)(c|bcd)?", "a*", "(", "a{3,2}", "^b", "y\nb", "k")
	case "template":
		return pick(r, "", "<$0>", "$1", "$$", "$9", "x")
	case "blob":
		return pick(r, "", "xay\nb", "abcd\nbaac\n", "K\u212A", "a\xFFb", "\x1F\x8B\x08", strings.Repeat("ab\n", r.IntN(40)))
	}
	return pick(r, "yes", "no")
}

// someTexts: keys in any order, each with a value; here and there one that is wrong.
func someTexts(r *rand.Rand) []string {
	keys := slices.Concat(numberKeys, choiceKeys, textKeys)
	r.Shuffle(len(keys), func(i, j int) { keys[i], keys[j] = keys[j], keys[i] })
	var l []string
	for _, key := range keys[:r.IntN(len(keys)+1)] {
		l = append(l, key, someValue(r, key))
	}
	if len(l) == 0 || r.IntN(3) > 0 {
		return l
	}
	switch i := r.IntN(len(l)); r.IntN(4) {
	case 0:
		l = slices.Delete(l, i, i+1)
	case 1:
		l[i] = pick(r, l...)
	case 2:
		l[i] = pick(r, "", "x", "yes", "0", "-0", "01", "mode", "blob")
	case 3:
		l = slices.Insert(l, i, pick(r, l...))
	}
	return l
}

func TestAgainstModel(t *testing.T) {
	r := rand.New(rand.NewPCG(25, 2))
	codes := map[api.Errno]int{}
	for range 30000 {
		s := Pack(someTexts(r))
		if r.IntN(10) == 0 && s != "" {
			at := r.IntN(len(s))
			s = s[:at] + pick(r, "", "0", ",", ":", "a") + s[at+1:]
		}
		codes[checkText(t, s).Code]++
	}
	if codes[api.OK] < 10000 || codes[api.ErrWord] < 3000 || codes[api.ErrForm] < 1000 {
		t.Errorf("too few of a kind: %v", codes)
	}
}

// TestReadAgain: what is shown of any options is read as these again.
func TestReadAgain(t *testing.T) {
	r := rand.New(rand.NewPCG(25, 3))
	for range 20000 {
		number := func() int {
			n := int(r.Int64N(1000000000000000000) >> r.IntN(60))
			return pick(r, 0, n, -n)
		}
		text := func() string {
			b := make([]byte, r.IntN(20))
			for i := range b {
				b[i] = byte(r.IntN(256))
			}
			return string(b)
		}
		var o suite.Options
		for _, n := range []*int{&o.Container, &o.Coding, &o.Mode, &o.Most, &o.Engine.States} {
			*n = number()
		}
		for _, b := range []*bool{&o.Strict, &o.Invert, &o.Multi, &o.Named, &o.Flags.Fold, &o.Flags.Lines, &o.Flags.Dot, &o.Flags.Lazy, &o.Engine.Lazy, &o.Engine.Words} {
			*b = r.IntN(2) == 0
		}
		o.Pattern, o.Template = text(), text()
		blob := text()
		s := Show(o, blob)
		if got, bytes, fault := Parse(s); got != o || bytes != blob || fault != (api.Fault{}) {
			t.Fatalf("%q: %+v %q %v, want %+v %q", s, got, bytes, fault, o, blob)
		}
		if got, fault := Run(s); got != runByWords(o, blob) || fault != (api.Fault{}) {
			t.Fatalf("%q: %q %v, want %q", s, got, fault, runByWords(o, blob))
		}
	}
}
