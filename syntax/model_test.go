package syntax

import (
	"math/rand/v2"
	"regexp"
	"slices"
	"strconv"
	"strings"
	"testing"
	"unicode/utf8"

	"ferret/api"
	"ferret/sets"
)

// What stands in a text, by its words.
var (
	braces   = regexp.MustCompile(`^\{([0-9]{1,4})(,([0-9]{1,4})?)?\}`)
	newName  = regexp.MustCompile(`^\(\?P<([A-Za-z0-9_]{1,32})>`)
	flagsSet = regexp.MustCompile(`^\(\?([imsU]*)(?:-([imsU]*))?([:)])`)
	property = regexp.MustCompile(`^\\[pP]\{([^}]*)\}`)
	oneCode  = regexp.MustCompile(`^\\x(?:([0-9A-Fa-f]{2})|\{([0-9A-Fa-f]{1,6})\})`)
	manyOf   = regexp.MustCompile(`^\\[dDsSwW]`)
	sign     = regexp.MustCompile(`^\\([!-/:-@[-` + "`" + `{-~])`)
	twice    = regexp.MustCompile(`i.*i|m.*m|s.*s|U.*U`)
)

// frame is a bracket that is open: where, as which group, and what it has so far.
type frame struct {
	at, group int
	name      string
	flags     string // those around it
	rows      [][]Node
	ahead     bool // is an atom just ahead?
}

func (f *frame) put(n Node) {
	last := len(f.rows) - 1
	f.rows[last] = append(f.rows[last], n)
	f.ahead = true
}

func (f *frame) node() Node {
	var l []Node
	for _, row := range f.rows {
		switch len(row) {
		case 0:
			l = append(l, Node{})
		case 1:
			l = append(l, row[0])
		default:
			l = append(l, Node{Kind: Cat, Kids: row})
		}
	}
	if len(l) == 1 {
		return l[0]
	}
	return Node{Kind: Alt, Kids: l}
}

// model reads a text without calls in one another: what is open stands in a list.
type model struct {
	text  string
	at    int
	flags string // the letters that are set
	open  []*frame
	names []string
}

func newModel(text string, f Flags) *model {
	m := &model{text: text, names: []string{""}, open: []*frame{{rows: make([][]Node, 1)}}}
	for letter, on := range map[string]bool{"i": f.Fold, "m": f.Lines, "s": f.Dot, "U": f.Lazy} {
		if on {
			m.flags += letter
		}
	}
	m.at = len(text) - len(strings.TrimPrefix(text, "\uFEFF"))
	return m
}

func (m *model) check(ok bool, code api.Errno, at int) {
	if !ok {
		panic(api.Fault{Code: code, At: at})
	}
}

func (m *model) top() *frame { return m.open[len(m.open)-1] }

func (m *model) has(letter string) bool { return strings.Contains(m.flags, letter) }

func (m *model) parse() (p Pattern, fault api.Fault) {
	defer func() {
		thrown := recover()
		if f, ok := thrown.(api.Fault); ok {
			p, fault = Pattern{}, f
		} else if thrown != nil {
			panic(thrown)
		}
	}()
	for m.at < len(m.text) {
		m.step()
	}
	m.check(len(m.open) == 1, api.ErrGroup, m.top().at)
	return Pattern{Root: m.top().node(), Names: m.names}, api.Fault{}
}

func (m *model) step() {
	rest := m.text[m.at:]
	switch c := rest[0]; {
	case c == '|':
		m.top().rows = append(m.top().rows, nil)
		m.top().ahead = false
		m.at++
	case c == ')':
		m.closed()
	case c == '(':
		m.opened(rest)
	case c == '*' || c == '+' || c == '?' || braces.MatchString(rest):
		m.quantifier(rest)
	case c == '[':
		m.put(Node{Kind: Class, Set: m.class()})
	case c == '^' || c == '$':
		kinds := map[string]int{"^false": BeginText, "^true": BeginLine, "$false": EndText, "$true": EndLine}
		m.top().put(Node{Kind: kinds[string(c)+strconv.FormatBool(m.has("m"))]})
		m.at++
	case c == '.':
		s := sets.Of().Not()
		if !m.has("s") {
			s = ranges(10, 10).Not()
		}
		m.put(Node{Kind: Class, Set: s})
		m.at++
	case len(rest) > 1 && slices.Contains([]string{`\A`, `\z`, `\b`, `\B`}, rest[:2]):
		m.top().put(Node{Kind: map[byte]int{'A': BeginText, 'z': EndText, 'b': Word, 'B': NotWord}[rest[1]]})
		m.at += 2
	default:
		s, _ := m.scalar()
		m.put(Node{Kind: Class, Set: s})
	}
}

func (m *model) put(n Node) {
	n.Fold = m.has("i")
	m.top().put(n)
}

func (m *model) closed() {
	m.check(len(m.open) > 1, api.ErrGroup, m.at)
	f := m.top()
	m.open = m.open[:len(m.open)-1]
	m.flags = f.flags
	n := f.node()
	if f.group > 0 {
		n = Node{Kind: Group, Cap: f.group, Name: f.name, Kids: []Node{n}}
	}
	m.top().put(n)
	m.at++
}

func (m *model) opened(rest string) {
	m.check(len(m.open) <= 32, api.ErrNest, m.at)
	f := &frame{at: m.at, flags: m.flags, rows: make([][]Node, 1)}
	size := 1
	switch {
	case strings.HasPrefix(rest, "(?P"):
		l := newName.FindStringSubmatch(rest)
		m.check(l != nil && !slices.Contains(m.names, l[1]), api.ErrGroup, m.at)
		f.name, f.group, size = l[1], len(m.names), len(l[0])
		m.names = append(m.names, l[1])
	case strings.HasPrefix(rest, "(?:"):
		size = 3
	case strings.HasPrefix(rest, "(?"):
		l := flagsSet.FindStringSubmatch(rest)
		m.check(l != nil && l[1]+l[2] != "" && !twice.MatchString(l[1]) && !twice.MatchString(l[2]), api.ErrToken, m.at)
		m.flags = strings.Map(func(r rune) rune {
			if strings.ContainsRune(l[2], r) {
				return -1
			}
			return r
		}, m.flags+l[1])
		size = len(l[0])
		if l[3] == ")" {
			m.top().ahead = false
			m.at += size
			return
		}
	default:
		f.group = len(m.names)
		m.names = append(m.names, "")
	}
	m.open = append(m.open, f)
	m.at += size
}

func (m *model) quantifier(rest string) {
	f := m.top()
	m.check(f.ahead, api.ErrRepeat, m.at)
	n, size := Node{Kind: Repeat}, 1
	switch rest[0] {
	case '*':
		n.Max = -1
	case '+':
		n.Min, n.Max = 1, -1
	case '?':
		n.Max = 1
	default:
		l := braces.FindStringSubmatch(rest)
		size = len(l[0])
		n.Min, _ = strconv.Atoi(l[1])
		n.Max = n.Min
		if l[2] != "" {
			n.Max = -1
		}
		if l[3] != "" {
			n.Max, _ = strconv.Atoi(l[3])
		}
		m.check(n.Min <= 64 && n.Max <= 64 && (n.Max == -1 || n.Min <= n.Max), api.ErrRepeat, m.at)
	}
	m.at += size
	n.Lazy = m.has("U")
	if strings.HasPrefix(m.text[m.at:], "?") {
		n.Lazy = !n.Lazy
		m.at++
	}
	row := f.rows[len(f.rows)-1]
	n.Kids = []Node{row[len(row)-1]}
	row[len(row)-1] = n
	f.ahead = false
}

// scalar, or an escape; true, where it is of one.
func (m *model) scalar() (sets.Set, bool) {
	rest := m.text[m.at:]
	if rest[0] != '\\' {
		r, size := utf8.DecodeRuneInString(rest)
		m.at += size
		return ranges(int(r), int(r)), true
	}
	if len(rest) > 1 && (rest[1] == 'p' || rest[1] == 'P') {
		l := property.FindStringSubmatch(rest)
		m.check(l != nil && len(named(l[1])) > 0, api.ErrClass, m.at)
		m.at += len(l[0])
		if rest[1] == 'P' {
			return named(l[1]).Not(), false
		}
		return named(l[1]), false
	}
	if manyOf.MatchString(rest) {
		m.at += 2
		return perl(rest[1]), false
	}
	r, size := -1, 2
	if l := oneCode.FindStringSubmatch(rest); l != nil {
		n, _ := strconv.ParseInt(l[1]+l[2], 16, 64)
		r, size = int(n), len(l[0])
	} else if l := sign.FindStringSubmatch(rest); l != nil {
		r = int(l[1][0])
	} else if len(rest) > 1 {
		if i := strings.IndexByte("tnvfr", rest[1]); i >= 0 {
			r = 9 + i
		}
	}
	m.check(0 <= r && r <= api.MaxRune, api.ErrToken, m.at)
	m.at += size
	return ranges(r, r), true
}

func (m *model) class() sets.Set {
	begin := m.at
	m.at++
	rest := func() string {
		m.check(m.at < len(m.text), api.ErrClass, begin)
		return m.text[m.at:]
	}
	turned := rest()[0] == '^'
	if turned {
		m.at++
	}
	var all sets.Set
	for first := true; first || rest()[0] != ']'; first = false {
		rest()
		from := m.at
		s, one := m.scalar()
		if one && rest()[0] == '-' && (len(rest()) == 1 || rest()[1] != ']') {
			m.at++
			rest()
			second, one := m.scalar()
			m.check(one && second[0].To >= s[0].From, api.ErrRange, from)
			s = ranges(s[0].From, second[0].To)
		}
		all = all.Or(s)
	}
	m.at++
	if turned {
		return all.Not()
	}
	return all
}

// words that texts are made of below: so that most of them come to something, and many are nearly right.
var words = []string{
	"a", "b", "z", "0", "9", "_", ",", ":", "<", ">", "-", "-", "^", "$", ".", "|", "|", "*", "+", "?", "?", "}", "{", "[", "[", "]", "]", "(", "(", ")", ")", ")", "\\", "/", " ", "\n", "\x00", "\u00E4", "\u212A", "\U0001F600", "\uFEFF",
	"(?", "(?i)", "(?i-s:", "(?U)", "(?-U:", "(?m)", "(?s)", "(?:", "(?P<", "(?P<a>", "(?P<b>", "(?P<a_9>", "(?i-i)", "(?mm)", "(?-", "i", "m", "s", "U", "(?P",
	"{2}", "{2,}", "{2,3}", "{3,2}", "{64}", "{65}", "{0}", "{0,0}", "{,2}", "{12345}", "{0009}", "{2", "{2,",
	"[^", "[]", "[^]", "a-c", "z-a", "-]", "[a", "[\\d-", "--",
	"\\d", "\\D", "\\s", "\\S", "\\w", "\\W", "\\b", "\\B", "\\A", "\\z", "\\n", "\\t", "\\r", "\\f", "\\v", "\\-", "\\]", "\\[", "\\\\", "\\^", "\\q", "\\1", "\\x41", "\\x4", "\\x{", "\\x{41}", "\\x{10FFFF}", "\\x{110000}", "\\x{0000041}", "\\p{Lu}", "\\P{Any}", "\\p{No}", "\\p{", "\\pL", "\\P", "\\p",
}

func checkByModel(t *testing.T, text string, f Flags) bool {
	t.Helper()
	got, fault := Parse(text, f)
	want, wantFault := newModel(text, f).parse()
	if fault != wantFault || told(got.Root) != told(want.Root) || !slices.Equal(got.Names, want.Names) {
		t.Errorf("%q, %v: %s, %q, %v; want %s, %q, %v", text, f, told(got.Root), got.Names, fault, told(want.Root), want.Names, wantFault)
	}
	return fault == api.Fault{}
}

func someFlags(source *rand.Rand) Flags {
	n := source.IntN(16)
	return Flags{Fold: n&1 != 0, Lines: n&2 != 0, Dot: n&4 != 0, Lazy: n&8 != 0}
}

func TestAgainstModel(t *testing.T) {
	source := rand.New(rand.NewPCG(10, 1))
	right := 0
	for range 300000 {
		var b strings.Builder
		for range source.IntN(10) {
			b.WriteString(words[source.IntN(len(words))])
		}
		if checkByModel(t, b.String(), someFlags(source)) {
			right++
		}
		if t.Failed() {
			return
		}
	}
	if right < 30000 {
		t.Errorf("only %d of the texts were right", right)
	}
}

// TestShortTexts: all texts of a few signs, so that no row of them is left out.
func TestShortTexts(t *testing.T) {
	for _, signs := range []string{"a(?i)*|P<>:", "[]^-ab\\d", "a{2,3}?+x\\"} {
		var try func(text string, left int)
		try = func(text string, left int) {
			checkByModel(t, text, Flags{})
			if left == 0 || t.Failed() {
				return
			}
			for i := range len(signs) {
				try(text+signs[i:i+1], left-1)
			}
		}
		try("", 5)
	}
}

// text: of a tree that Parse gave, one that tells it, for Parse without flags.
func text(n Node) string {
	var l []string
	for _, kid := range n.Kids {
		s := text(kid)
		if kid.Kind >= Cat && kid.Kind <= Repeat {
			s = "(?:" + s + ")"
		}
		l = append(l, s)
	}
	switch n.Kind {
	case Class:
		s := "[^\\x{0}-\\x{10FFFF}]"
		if len(n.Set) > 0 {
			s = "["
			for _, r := range n.Set {
				s += "\\x{" + strconv.FormatInt(int64(r.From), 16) + "}-\\x{" + strconv.FormatInt(int64(r.To), 16) + "}"
			}
			s += "]"
		}
		if n.Fold {
			s = "(?i:" + s + ")"
		}
		return s
	case Cat:
		return strings.Join(l, "")
	case Alt:
		return strings.Join(l, "|")
	case Repeat:
		s := l[0] + "{" + strconv.Itoa(n.Min) + "," + strconv.Itoa(n.Max) + "}"
		s = strings.Replace(s, ",-1}", ",}", 1)
		if n.Lazy {
			s += "?"
		}
		return s
	case Group:
		if n.Name != "" {
			return "(?P<" + n.Name + ">" + l[0] + ")"
		}
		return "(" + l[0] + ")"
	}
	return map[int]string{Empty: "(?:)", BeginText: "\\A", EndText: "\\z", BeginLine: "(?m:^)", EndLine: "(?m:$)", Word: "\\b", NotWord: "\\B"}[n.Kind]
}

func TestWhatIsToldIsReadAgain(t *testing.T) {
	source := rand.New(rand.NewPCG(10, 3))
	again := 0
	for range 50000 {
		var b strings.Builder
		for range source.IntN(8) {
			b.WriteString(words[source.IntN(len(words))])
		}
		p, fault := Parse(b.String(), someFlags(source))
		s := text(p.Root)
		if fault != (api.Fault{}) || len(s) > api.MaxPattern {
			continue
		}
		again++
		q, fault := Parse(s, Flags{})
		if fault != (api.Fault{}) || told(p.Root) != told(q.Root) || !slices.Equal(p.Names, q.Names) {
			t.Fatalf("%q, told as %q: %s, %v; was %s", b.String(), s, told(q.Root), fault, told(p.Root))
		}
	}
	if again < 5000 {
		t.Errorf("only %d trees were told", again)
	}
}

// TestAnyBytes: whatever they are, there is an answer, or a fault at a place that there is.
func TestAnyBytes(t *testing.T) {
	source := rand.New(rand.NewPCG(10, 2))
	for range 100000 {
		var b []byte
		for range source.IntN(12) {
			if source.IntN(4) == 0 {
				b = append(b, byte(source.IntN(256)))
			} else {
				b = append(b, words[source.IntN(len(words))]...)
			}
		}
		p, fault := Parse(string(b), someFlags(source))
		if fault.Code == api.OK && (fault.At != 0 || len(p.Names) == 0 || !utf8.Valid(b)) {
			t.Errorf("%q: %v, %v", b, p, fault)
		}
		if fault.Code != api.OK && (fault.At < 0 || fault.At >= len(b) || told(p.Root) != "(0)" || len(p.Names) > 0) {
			t.Errorf("%q: %v, %v", b, p, fault)
		}
	}
}
