package sets

import (
	"math"
	"math/rand/v2"
	"slices"
	"testing"

	"ferret/api"
)

const most = api.MaxRune

// list makes ranges of numbers, two a range.
func list(l ...int) []api.Range {
	var ranges []api.Range
	for i := 0; i < len(l); i += 2 {
		ranges = append(ranges, api.Range{From: l[i], To: l[i+1]})
	}
	return ranges
}

func check(t *testing.T, what string, got Set, want []api.Range) {
	t.Helper()
	if !slices.Equal(got, want) {
		t.Errorf("%s: %v, want %v", what, got, want)
	}
}

func TestOf(t *testing.T) {
	for _, c := range []struct {
		what string
		from []api.Range
		want []api.Range
	}{
		{"none", nil, nil},
		{"an empty list", []api.Range{}, nil},
		{"the chapter's example", list(5, 9, 1, 2, 3, 4), list(1, 9)},
		{"one", list(3, 3), list(3, 3)},
		{"all", list(0, most), list(0, most)},
		{"a wrong one", list(3, 2), nil},
		{"a wrong one among others", list(9, 9, 7, 3, 1, 1), list(1, 1, 9, 9)},
		{"a wrong one between two", list(1, 2, 4, 3, 5, 6), list(1, 2, 5, 6)},
		{"they touch", list(1, 2, 3, 4), list(1, 4)},
		{"one number between", list(1, 2, 4, 5), list(1, 2, 4, 5)},
		{"one in another", list(1, 9, 3, 4), list(1, 9)},
		{"one in another, and one behind", list(1, 9, 3, 4, 8, 12, 14, 15), list(1, 12, 14, 15)},
		{"the same twice", list(3, 4, 3, 4), list(3, 4)},
		{"the same beginning", list(3, 4, 3, 9, 3, 3), list(3, 9)},
		{"below 0", list(-5, -1), nil},
		{"from below 0", list(-5, 0), list(0, 0)},
		{"above the greatest", list(most+1, most+5), nil},
		{"up to above the greatest", list(most, most+5), list(most, most)},
		{"all ints", list(math.MinInt, math.MaxInt), list(0, most)},
		{"all ints, turned round", list(math.MaxInt, math.MinInt), nil},
		{"the ends of ints", list(math.MinInt, math.MinInt, math.MaxInt, math.MaxInt), nil},
		{"up to the greatest int, twice", list(5, math.MaxInt, 3, math.MaxInt), list(3, most)},
		{"down to the least int", list(math.MinInt, 5, 7, 7), list(0, 5, 7, 7)},
		{"both ends of a set", list(most, most, 0, 0), list(0, 0, most, most)},
	} {
		check(t, c.what, Of(c.from...), c.want)
	}
}

func TestHas(t *testing.T) {
	s := Of(list(1, 2, 4, 4, 10, 20, most, most)...)
	for _, r := range []int{1, 2, 4, 10, 15, 20, most} {
		if !s.Has(r) {
			t.Errorf("has no %d", r)
		}
	}
	for _, r := range []int{0, 3, 5, 9, 21, most - 1, -1, most + 1, math.MinInt, math.MaxInt} {
		if s.Has(r) {
			t.Errorf("has %d", r)
		}
	}
	for _, r := range []int{-1, most + 1, math.MinInt, math.MaxInt} {
		if Of(list(0, most)...).Has(r) || Of().Has(r) {
			t.Errorf("%d is in a set", r)
		}
	}
	if Of().Has(0) || Set(nil).Has(5) || !Of(list(0, 0)...).Has(0) {
		t.Error("of 0, or of none")
	}
}

func TestSize(t *testing.T) {
	for _, c := range []struct {
		from []api.Range
		want int
	}{
		{nil, 0},
		{list(0, 0), 1},
		{list(5, 9, 1, 2, 3, 4), 9},
		{list(1, 2, 4, 5, most, most), 5},
		{list(0, most), 0x110000},
		{list(4, 3), 0},
	} {
		if n := Of(c.from...).Size(); n != c.want {
			t.Errorf("%v: %d, want %d", c.from, n, c.want)
		}
	}
}

func TestTwoSets(t *testing.T) {
	for _, c := range []struct {
		s, t, or, and, less []api.Range
	}{
		{nil, nil, nil, nil, nil},
		{list(1, 9), nil, list(1, 9), nil, list(1, 9)},
		{nil, list(1, 9), list(1, 9), nil, nil},
		{list(1, 9), list(4, 20), list(1, 20), list(4, 9), list(1, 3)},
		{list(4, 20), list(1, 9), list(1, 20), list(4, 9), list(10, 20)},
		{list(1, 9), list(1, 9), list(1, 9), list(1, 9), nil},
		{list(1, 9), list(5, 5), list(1, 9), list(5, 5), list(1, 4, 6, 9)},
		{list(5, 5), list(1, 9), list(1, 9), list(5, 5), nil},
		{list(1, 4), list(5, 9), list(1, 9), nil, list(1, 4)},
		{list(1, 3), list(5, 9), list(1, 3, 5, 9), nil, list(1, 3)},
		{list(1, 2, 5, 6), list(3, 4), list(1, 6), nil, list(1, 2, 5, 6)},
		{list(1, 2, 5, 6, 9, 9), list(2, 9), list(1, 9), list(2, 2, 5, 6, 9, 9), list(1, 1)},
		{list(0, most), list(0, 0, most, most), list(0, most), list(0, 0, most, most), list(1, most-1)},
		{list(0, 5), list(0, most), list(0, most), list(0, 5), nil},
	} {
		a, b := Of(c.s...), Of(c.t...)
		check(t, "Or", a.Or(b), c.or)
		check(t, "And", a.And(b), c.and)
		check(t, "Less", a.Less(b), c.less)
	}
}

func TestNot(t *testing.T) {
	for _, c := range []struct{ s, want []api.Range }{
		{nil, list(0, most)},
		{list(0, most), nil},
		{list(0, 0), list(1, most)},
		{list(most, most), list(0, most-1)},
		{list(1, 9), list(0, 0, 10, most)},
		{list(0, 3, 5, most), list(4, 4)},
		{list(1, most-1), list(0, 0, most, most)},
		{list(2, 3, 5, 6, 9, 9), list(0, 1, 4, 4, 7, 8, 10, most)},
	} {
		check(t, "Not", Of(c.s...).Not(), c.want)
		check(t, "Not of Not", Of(c.s...).Not().Not(), c.s)
	}
}

func TestSame(t *testing.T) {
	for _, c := range []struct {
		s, t Set
		want bool
	}{
		{nil, nil, true},
		{nil, Set{}, true},
		{Set{}, nil, true},
		{nil, Set{{}}, false},
		{Set{{From: 1, To: 2}}, Set{{From: 1, To: 2}}, true},
		{Set{{From: 1, To: 2}}, Set{{From: 1, To: 3}}, false},
		{Set{{From: 1, To: 2}}, Set{{From: 0, To: 2}}, false},
		{Set{{From: 1, To: 2}}, Set{{From: 1, To: 2}, {From: 4, To: 4}}, false},
		{Set{{From: 1, To: 2}, {From: 4, To: 4}}, Set{{From: 1, To: 2}}, false},
		{Of(list(1, 2, 3, 4)...), Of(list(4, 4, 1, 3)...), true},
	} {
		if got := c.s.Same(c.t); got != c.want {
			t.Errorf("Same(%v, %v) = %v", c.s, c.t, got)
		}
	}
}

// flags tells a set number by number, at both ends of the numbers that there are.
type flags [2 * window]bool

const window = 24

// number: that a flag stands for.
func number(i int) int {
	if i < window {
		return i
	}
	return most - 2*window + 1 + i
}

func flagsOf(l []api.Range) flags {
	var f flags
	for i := range f {
		for _, r := range l {
			f[i] = f[i] || r.From <= number(i) && number(i) <= r.To
		}
	}
	return f
}

func (f flags) with(g flags, both func(a, b bool) bool) flags {
	for i := range f {
		f[i] = both(f[i], g[i])
	}
	return f
}

// isSet: do ranges rise, within the numbers that there are, with a number between each two?
func isSet(s Set) bool {
	behind := -2
	for _, r := range s {
		if r.From < 0 || r.From <= behind+1 || r.To < r.From || r.To > most {
			return false
		}
		behind = r.To
	}
	return true
}

// someRanges: near both ends, also beyond them, and turned round.
func someRanges(r *rand.Rand) []api.Range {
	var l []api.Range
	for range r.IntN(7) {
		from := r.IntN(window+6) - 3
		if r.IntN(2) == 0 {
			from = most - r.IntN(window+6) + 3
		}
		l = append(l, api.Range{From: from, To: from + r.IntN(7) - 1})
	}
	return l
}

func TestAsNumberByNumber(t *testing.T) {
	r := rand.New(rand.NewPCG(8, 2))
	for range 20000 {
		l, m := someRanges(r), someRanges(r)
		a, b := Of(l...), Of(m...)
		f, g := flagsOf(l), flagsOf(m)
		for _, c := range []struct {
			what string
			got  Set
			want flags
		}{
			{"Of", a, f},
			{"Or", a.Or(b), f.with(g, func(x, y bool) bool { return x || y })},
			{"And", a.And(b), f.with(g, func(x, y bool) bool { return x && y })},
			{"Less", a.Less(b), f.with(g, func(x, y bool) bool { return x && !y })},
			{"Not", a.Not(), f.with(f, func(x, _ bool) bool { return !x })},
		} {
			if !isSet(c.got) || flagsOf(c.got) != c.want {
				t.Fatalf("%s of %v, %v: %v", c.what, l, m, c.got)
			}
		}
		size := 0
		for i := range f {
			if a.Has(number(i)) != f[i] {
				t.Fatalf("Has(%d) of %v", number(i), a)
			}
			if f[i] {
				size++
			}
		}
		// The ranges reach a little beyond what the flags tell.
		if middle := a.And(Of(list(window, most-window)...)); a.Size() != size+middle.Size() {
			t.Fatalf("Size of %v: %d", a, a.Size())
		}
		if a.Same(b) != slices.Equal(a, b) || !a.Same(Of(l...)) {
			t.Fatalf("Same of %v, %v", a, b)
		}
	}
}

func TestSetsStayAsTheyAre(t *testing.T) {
	room := list(1, 2, 5, 9, 20, 30, 77, 88)
	other := list(8, 8, 3, 3, 1, 50, 66, 66)
	was, otherWas := slices.Clone(room), slices.Clone(other)
	s := Set(room[:3])
	Of(other[:3]...)
	u := Of(list(4, 4, 100, 101)...)
	answers := []Set{Of(room[:3]...), s.Or(u), u.Or(s), s.Or(nil), Set(nil).Or(s), s.And(s), s.And(Of(list(0, most)...)), s.Not(), s.Less(nil), s.Less(u)}
	if !slices.Equal(room, was) || !slices.Equal(other, otherWas) {
		t.Fatalf("changed: %v, %v", room, other)
	}
	for _, a := range answers {
		for i := range a {
			a[i] = api.Range{From: -7, To: -7}
		}
		_ = append(a, api.Range{From: -7, To: -7})
	}
	if !slices.Equal(room, was) || !u.Same(list(4, 4, 100, 101)) {
		t.Errorf("an answer shares memory with an argument: %v, %v", room, u)
	}
}
