package simple

import (
	"math/big"
	"math/rand/v2"
	"regexp"
	"slices"
	"strings"
	"testing"

	"ferret/api"
	"ferret/sets"
	"ferret/show"
	"ferret/syntax"
	"ferret/ucd"
)

// model of a simplified tree: as told, and so are its Kids.
type model struct {
	kind  int
	kids  []string
	whole string
}

func modelFor(n syntax.Node, kids ...string) model {
	n.Kids = nil
	return model{n.Kind, kids, wrapped(n, kids...)}
}

// modelRow: of one kind, by the words of what Cat and Alt come to.
func modelRow(kind int, l []model) model {
	var flat []model
	for _, m := range l {
		switch {
		case m.kind == kind:
			for _, kid := range m.kids {
				flat = append(flat, model{-1, nil, kid})
			}
		case m.kind == syntax.Empty && kind == syntax.Cat:
		default:
			flat = append(flat, m)
		}
	}
	if len(flat) == 0 {
		return modelFor(syntax.Node{})
	}
	if len(flat) == 1 {
		return flat[0]
	}
	var kids []string
	for _, m := range flat {
		kids = append(kids, m.whole)
	}
	return modelFor(syntax.Node{Kind: kind}, kids...)
}

// modelRepeat: n times x, then y or z(m - n).
func modelRepeat(n syntax.Node) model {
	x := modelOf(n.Kids[0])
	loop := func(most int, m model) model {
		return modelFor(syntax.Node{Kind: syntax.Repeat, Max: most, Lazy: n.Lazy}, m.whole)
	}
	var z func(k int) model
	z = func(k int) model {
		if k == 1 {
			return loop(1, x)
		}
		return loop(1, modelRow(syntax.Cat, []model{x, z(k - 1)}))
	}
	l := slices.Repeat([]model{x}, n.Min)
	if n.Max == -1 {
		l = append(l, loop(-1, x))
	} else if n.Max > n.Min {
		l = append(l, z(n.Max-n.Min))
	}
	return modelRow(syntax.Cat, l)
}

func modelOf(n syntax.Node) model {
	switch n.Kind {
	case syntax.Class:
		return modelFor(syntax.Node{Kind: syntax.Class, Set: modelSet(n)})
	case syntax.Cat, syntax.Alt:
		var l []model
		for _, kid := range n.Kids {
			l = append(l, modelOf(kid))
		}
		return modelRow(n.Kind, l)
	case syntax.Repeat:
		return modelRepeat(n)
	case syntax.Group:
		return modelFor(n, modelOf(n.Kids[0]).whole)
	}
	return modelFor(n)
}

// orbits of more than one number.
var orbits = func() [][]int {
	var l [][]int
	for r := range api.MaxRune + 1 {
		if o := ucd.Orbit(r); len(o) > 1 && o[0] == r {
			l = append(l, o)
		}
	}
	return l
}()

func modelSet(n syntax.Node) sets.Set {
	l := []api.Range(n.Set)
	for _, o := range orbits {
		if n.Fold && slices.ContainsFunc(o, n.Set.Has) {
			for _, r := range o {
				l = append(slices.Clip(l), api.Range{From: r, To: r})
			}
		}
	}
	low, high := sets.Of(api.Range{From: 0, To: 0xD7FF}), sets.Of(api.Range{From: 0xE000, To: api.MaxRune})
	all := sets.Of(l...)
	return all.And(low).Or(all.And(high))
}

// modelCount: without a bound on numbers but that of the chapter.
func modelCount(n syntax.Node) *big.Int {
	total := big.NewInt(1)
	add := func(times int, c *big.Int) {
		total.Add(total, new(big.Int).Mul(big.NewInt(int64(times)), c))
	}
	switch n.Kind {
	case syntax.Cat, syntax.Alt, syntax.Group:
		for _, kid := range n.Kids {
			add(1, modelCount(kid))
		}
	case syntax.Repeat:
		c := modelCount(n.Kids[0])
		add(n.Min, c)
		if n.Max == -1 {
			add(1, new(big.Int).Add(c, big.NewInt(1)))
		} else {
			add(n.Max-n.Min, new(big.Int).Add(c, big.NewInt(2)))
		}
	}
	if bound := big.NewInt(1<<20 + 1); total.Cmp(bound) > 0 {
		return bound
	}
	return total
}

// someTree: one that Parse could give, groups' numbers in any order.
func someTree(source *rand.Rand, deep, most int) syntax.Node {
	k := source.IntN(14) % 12
	if deep == 0 && k >= syntax.Cat {
		k = syntax.Class
	}
	n := syntax.Node{Kind: k}
	kids := 0
	switch k {
	case syntax.Class:
		n.Set, n.Fold = someSet(source), source.IntN(3) == 0
	case syntax.Cat, syntax.Alt:
		kids = 2 + source.IntN(3)
	case syntax.Repeat:
		n.Min, n.Max, n.Lazy, kids = source.IntN(most), source.IntN(most+1)-1, source.IntN(2) == 0, 1
		if n.Max >= 0 {
			n.Max = max(n.Min, n.Max)
		}
	case syntax.Group:
		n.Cap, n.Name, kids = source.IntN(9), []string{"", "x"}[source.IntN(2)], 1
	}
	for range kids {
		n.Kids = append(n.Kids, someTree(source, deep-1, most))
	}
	return n
}

func someSet(source *rand.Rand) sets.Set {
	var s sets.Set
	for range source.IntN(4) {
		r := []int{source.IntN(0x80), source.IntN(0x500), 0xD7F0 + source.IntN(0x820), source.IntN(api.MaxRune + 1)}[source.IntN(4)]
		s = s.Or(ranges(r, r+source.IntN(20)))
	}
	return s
}

func TestSimplifyAgainstModel(t *testing.T) {
	source := rand.New(rand.NewPCG(12, 1))
	right := 0
	for range 20000 {
		n := someTree(source, 5, 2+source.IntN(5))
		was := told(n)
		got, err := Simplify(n)
		if told(n) != was {
			t.Fatalf("%s was changed: %s", was, told(n))
		}
		if Count(n) > api.MaxProgram {
			if err != api.ErrBig || told(got) != told(syntax.Node{}) {
				t.Fatalf("%s: %s, %v", was, told(got), err)
			}
			continue
		}
		right++
		if want := modelOf(n).whole; err != api.OK || told(got) != want {
			t.Fatalf("%s: %s, %v; want %s", was, told(got), err, want)
		}
	}
	if right < 10000 {
		t.Errorf("only %d trees were simplified", right)
	}
}

func TestCountAgainstModel(t *testing.T) {
	source := rand.New(rand.NewPCG(12, 2))
	above := 0
	for range 20000 {
		n := someTree(source, 5, 2+source.IntN(api.MaxRepeat-1))
		for range source.IntN(5) {
			least := source.IntN(api.MaxRepeat + 1)
			n = cat(repeat(least, []int{-1, least, api.MaxRepeat}[source.IntN(3)], n), n)
		}
		got, want := Count(n), int(modelCount(n).Int64())
		if got != want {
			t.Fatalf("%s: %d, want %d", told(n), got, want)
		}
		if got > 1<<20 {
			above++
		}
	}
	if above < 100 {
		t.Errorf("only %d trees were above the bound", above)
	}
}

// checkSimple: what a simplified tree may not have.
func checkSimple(t *testing.T, n syntax.Node) {
	t.Helper()
	if n.Fold || n.Set.And(ranges(0xD800, 0xDFFF)).Size() > 0 {
		t.Errorf("it folds, or has what is no scalar: %s", told(n))
	}
	if n.Kind == syntax.Repeat && (n.Min != 0 || n.Max != -1 && n.Max != 1) {
		t.Errorf("a Repeat of %d and %d", n.Min, n.Max)
	}
	if (n.Kind == syntax.Cat || n.Kind == syntax.Alt) && len(n.Kids) < 2 {
		t.Errorf("of %d Kids: %s", len(n.Kids), told(n))
	}
	for _, kid := range n.Kids {
		if n.Kind == kid.Kind && (n.Kind == syntax.Cat || n.Kind == syntax.Alt) || n.Kind == syntax.Cat && kid.Kind == syntax.Empty {
			t.Errorf("of kind %d in one of kind %d", kid.Kind, n.Kind)
		}
		checkSimple(t, kid)
	}
}

func TestWhatIsSimpleStaysSo(t *testing.T) {
	source := rand.New(rand.NewPCG(12, 3))
	for range 10000 {
		n, err := Simplify(someTree(source, 5, 2+source.IntN(5)))
		checkSimple(t, n)
		if Count(n) > api.MaxProgram {
			// Written out, a tree may count more than it did: ErrBig is what Count says.
			checkBig(t, n)
			continue
		}
		if more, err2 := Simplify(n); err2 != api.OK || told(more) != told(n) {
			t.Errorf("%s: %s, %v, %v", told(n), told(more), err, err2)
		}
		if t.Failed() {
			return
		}
	}
}

// memory: where all elements of a tree's lists stand, the room behind them included.
func memory(n syntax.Node, seen func(where any)) {
	for i := range n.Set[:cap(n.Set)] {
		seen(&n.Set[:cap(n.Set)][i])
	}
	for i := range n.Kids[:cap(n.Kids)] {
		seen(&n.Kids[:cap(n.Kids)][i])
	}
	for _, kid := range n.Kids {
		memory(kid, seen)
	}
}

func TestEveryListIsItsOwn(t *testing.T) {
	source := rand.New(rand.NewPCG(12, 4))
	for range 3000 {
		n := someTree(source, 4, 5)
		first, _ := Simplify(n)
		second, _ := Simplify(n)
		all := map[any]bool{}
		for _, tree := range []syntax.Node{n, first, second} {
			memory(tree, func(where any) {
				if all[where] {
					t.Errorf("memory is shared: %s", told(n))
				}
				all[where] = true
			})
		}
		if t.Failed() {
			return
		}
	}
}

// TestFindsTheSame: what another program finds by a pattern, it finds by what the pattern was simplified to.
func TestFindsTheSame(t *testing.T) {
	words := []string{"a", "b", "k", "ab", "(?i:k)", "[ab]", "(?:", "(?:", "(", ")", ")", ")", "|", "*", "+", "?", "{2}", "{2,}", "{1,3}", "{0,2}", "{0}", "?", "\\b", "^", "$"}
	source := rand.New(rand.NewPCG(12, 5))
	right := 0
	for range 30000 {
		var b strings.Builder
		for range 1 + source.IntN(10) {
			b.WriteString(words[source.IntN(len(words))])
		}
		p, fault := syntax.Parse(b.String(), syntax.Flags{})
		n, err := Simplify(p.Root)
		if fault != (api.Fault{}) || err != api.OK || mayBeEmpty(p.Root) {
			continue
		}
		right++
		one, other := regexp.MustCompile(show.Show(p.Root)), regexp.MustCompile(show.Show(n))
		for range 10 {
			var text strings.Builder
			for range source.IntN(12) {
				text.WriteString([]string{"a", "b", "k", "K", " "}[source.IntN(5)])
			}
			want, got := one.FindAllStringIndex(text.String(), -1), other.FindAllStringIndex(text.String(), -1)
			if !slices.EqualFunc(want, got, slices.Equal[[]int]) {
				t.Fatalf("%q, simplified %q, over %q: %v, want %v", show.Show(p.Root), show.Show(n), text.String(), got, want)
			}
		}
	}
	if right < 1000 {
		t.Errorf("only %d patterns were looked for", right)
	}
}

// mayBeEmpty: is there a Repeat of what may be empty? Of such the other program has ways of its own.
func mayBeEmpty(n syntax.Node) bool {
	if n.Kind == syntax.Repeat && regexp.MustCompile(`\A(?:`+show.Show(n.Kids[0])+`)\z`).MatchString("") {
		return true
	}
	return slices.ContainsFunc(n.Kids, mayBeEmpty)
}
