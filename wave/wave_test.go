package wave

import (
	"math"
	"math/cmplx"
	"math/rand/v2"
	"slices"
	"testing"

	"ferret/api"
)

const (
	forth = false
	back  = true
)

// near is how far what is told may be from what is meant, in both parts.
const near = 1.0 / (1 << 10)

func isNear(a, b complex128) bool {
	return math.Abs(real(a)-real(b)) < near && math.Abs(imag(a)-imag(b)) < near
}

func checkNear(t *testing.T, what string, got, want []complex128) {
	t.Helper()
	if len(got) != len(want) {
		t.Fatalf("%s: %d numbers, want %d", what, len(got), len(want))
	}
	for k := range want {
		if !isNear(got[k], want[k]) {
			t.Fatalf("%s, %d numbers: number %d is %v, want %v", what, len(want), k, got[k], want[k])
		}
	}
}

// bySums: the transform by the chapter's words, a sum for each number.
func bySums(x []complex128, back bool) []complex128 {
	n := len(x)
	turn := -2 * math.Pi / float64(n)
	if back {
		turn = -turn
	}
	y := make([]complex128, n)
	for k := range y {
		for i, v := range x {
			y[k] += v * cmplx.Rect(1, turn*float64(i*k%n))
		}
		if back {
			y[k] /= complex(float64(n), 0)
		}
	}
	return y
}

// lengths of transforms, all that there are.
func lengths() []int {
	var l []int
	for n := 1; n <= api.MaxWave; n *= 2 {
		l = append(l, n)
	}
	return l
}

// someRows: rows of whole numbers from -256 to 256, the greatest ones among them.
func someRows(source *rand.Rand, n int) [][]complex128 {
	random := func(int) complex128 { return complex(float64(source.IntN(513)-256), float64(source.IntN(513)-256)) }
	makers := []func(i int) complex128{
		random, random,
		func(int) complex128 { return complex(256, -256) },
		func(i int) complex128 { return complex(256-512*float64(i%2), 256) },
		func(int) complex128 { return complex(512*float64(source.IntN(2))-256, 512*float64(source.IntN(2))-256) },
		func(i int) complex128 { return complex(float64(i%513-256), 0) },
		func(int) complex128 { return 0 },
	}
	var rows [][]complex128
	for _, number := range makers {
		row := make([]complex128, n)
		for i := range row {
			row[i] = number(i)
		}
		rows = append(rows, row)
	}
	return rows
}

func TestTransformByHand(t *testing.T) {
	for _, c := range []struct {
		x    []complex128
		back bool
		want []complex128
	}{
		{[]complex128{3 - 2i}, forth, []complex128{3 - 2i}},
		{[]complex128{3 - 2i}, back, []complex128{3 - 2i}},
		{[]complex128{5, 3}, forth, []complex128{8, 2}},
		{[]complex128{5, 3}, back, []complex128{4, 1}},
		{[]complex128{1, 2, 3, 4}, forth, []complex128{10, -2 + 2i, -2, -2 - 2i}},
		{[]complex128{1, 2, 3, 4}, back, []complex128{2.5, -0.5 - 0.5i, -0.5, -0.5 + 0.5i}},
		{[]complex128{0, 1, 0, 0}, forth, []complex128{1, -1i, -1, 1i}},
		{[]complex128{0, 4, 0, 0}, back, []complex128{1, 1i, -1, -1i}},
		{[]complex128{0, 0, 0, 1i}, forth, []complex128{1i, -1, -1i, 1}},
		{[]complex128{1, 1, 1, 1, 1, 1, 1, 1}, forth, []complex128{8, 0, 0, 0, 0, 0, 0, 0}},
	} {
		checkNear(t, "by hand", Transform(c.x, c.back), c.want)
		checkNear(t, "the model", bySums(c.x, c.back), c.want)
	}
}

func TestTransformOfOtherLengths(t *testing.T) {
	is := map[int]bool{}
	for _, n := range lengths() {
		is[n] = true
	}
	all := make([]complex128, 4*api.MaxWave)
	for n := range 2*api.MaxWave + 2 {
		if is[n] {
			continue
		}
		if got := Transform(all[:n], n%3 == 0); len(got) > 0 {
			t.Fatalf("of %d numbers: %d", n, len(got))
		}
	}
	for _, n := range []int{2 * api.MaxWave, 4 * api.MaxWave} {
		if len(Transform(all[:n], forth)) > 0 || len(Transform(all[:n], back)) > 0 {
			t.Errorf("of %d numbers some", n)
		}
	}
	if len(Transform(nil, forth)) > 0 || len(Transform(nil, back)) > 0 {
		t.Error("of no numbers some")
	}
}

func TestTransformAgainstSums(t *testing.T) {
	source := rand.New(rand.NewPCG(17, 1))
	for _, n := range lengths() {
		rows := someRows(source, n)
		if n > 512 {
			rows = rows[:1] // sums take their time
		}
		for _, x := range rows {
			checkNear(t, "forth", Transform(x, forth), bySums(x, forth))
			checkNear(t, "back", Transform(x, back), bySums(x, back))
		}
	}
}

// TestTransformAgain: the way back of the way forth, and the other way round.
func TestTransformAgain(t *testing.T) {
	source := rand.New(rand.NewPCG(17, 2))
	for _, n := range lengths() {
		for _, x := range someRows(source, n) {
			checkNear(t, "forth and back", Transform(Transform(x, forth), back), x)
			checkNear(t, "back and forth", Transform(Transform(x, back), forth), x)
		}
	}
}

// TestTransformOfOne: of one number at the place 0 it is that everywhere, of one at another place it goes round.
func TestTransformOfOne(t *testing.T) {
	for _, n := range lengths() {
		for _, v := range []complex128{1, -1, 1i, 256, -256 + 256i, 256 - 256i, 77 - 3i} {
			x := make([]complex128, n)
			x[0] = v
			checkNear(t, "one number", Transform(x, forth), slices.Repeat([]complex128{v}, n))
			x[0], x[n-1] = 0, v
			want := make([]complex128, n)
			for k := range want {
				want[k] = v * cmplx.Rect(1, 2*math.Pi*float64(k)/float64(n))
			}
			checkNear(t, "one number at the end", Transform(x, forth), want)
		}
	}
}

func TestTransformIsNew(t *testing.T) {
	for _, way := range []bool{forth, back} {
		for _, n := range []int{1, 2, 8} {
			room := make([]complex128, n+3)
			for i := range room {
				room[i] = complex(float64(i), 1)
			}
			was := slices.Clone(room)
			x := room[:n]
			first, second := Transform(x, way), Transform(x, way)
			want := slices.Clone(first)
			if !slices.Equal(second, want) {
				t.Errorf("%v, and then %v", first, second)
			}
			clear(second[:cap(second)])
			if !slices.Equal(room, was) || !slices.Equal(first, want) {
				t.Errorf("memory is changed or shared: %v, %v", room, first)
			}
		}
	}
}

// TestTransformOfAnything: of numbers that are none, or too great, there is an answer.
func TestTransformOfAnything(t *testing.T) {
	for _, v := range []float64{math.NaN(), math.Inf(1), math.Inf(-1), math.MaxFloat64, math.SmallestNonzeroFloat64} {
		for _, way := range []bool{forth, back} {
			if got := Transform(slices.Repeat([]complex128{complex(v, -v)}, 16), way); len(got) != 16 {
				t.Errorf("%d numbers", len(got))
			}
		}
	}
}

func checkProduct(t *testing.T, a, b, want []int) {
	t.Helper()
	got, err := Product(a, b)
	if err != api.OK || !slices.Equal(got, want) {
		t.Fatalf("of %d and %d numbers: %v, %v; want %v", len(a), len(b), err, got, want)
	}
}

func TestProductByHand(t *testing.T) {
	for _, c := range []struct{ a, b, want []int }{
		{[]int{1, 2, 3}, []int{-1, 5}, []int{-1, 3, 7, 15}},
		{[]int{7}, []int{-6}, []int{-42}},
		{[]int{0}, []int{0}, []int{0}},
		{[]int{0, 0}, []int{5, 1, 2}, []int{0, 0, 0, 0}},
		{[]int{1, 1}, []int{1, -1}, []int{1, 0, -1}},
		{[]int{256}, []int{256, -256}, []int{65536, -65536}},
		{[]int{1, 2, 3}, []int{0, 0, 1}, []int{0, 0, 1, 2, 3}},
		{[]int{1, 2, 3, 4}, []int{1, 10}, []int{1, 12, 23, 34, 40}},
		{nil, nil, nil},
		{[]int{1, 2}, nil, nil},
		{nil, []int{-256, 256}, nil},
		{[]int{}, []int{}, nil},
	} {
		checkProduct(t, c.a, c.b, c.want)
		checkProduct(t, c.b, c.a, c.want)
	}
}

func TestProductOfWrong(t *testing.T) {
	wrong := func(a, b []int) {
		t.Helper()
		for range 2 {
			if got, err := Product(a, b); err != api.ErrArg || len(got) > 0 {
				t.Errorf("of %d and %d numbers: %v, %v", len(a), len(b), err, got)
			}
			a, b = b, a
		}
	}
	for _, n := range []int{257, -257, 1 << 32, -1 << 32, math.MaxInt, math.MinInt} {
		wrong([]int{n}, []int{1})
		wrong([]int{1, 2, n}, []int{1, 0, 0})
		wrong([]int{n}, nil)
	}
	long := make([]int, 2*api.MaxWave)
	wrong(long[:api.MaxWave+1], nil)
	wrong(long[:api.MaxWave], long[:1])
	wrong(long[:api.MaxWave/2+1], long[:api.MaxWave/2])
	wrong(long, long)
	checkProduct(t, long[:api.MaxWave], nil, nil)
	checkProduct(t, long[:api.MaxWave-1], long[:1], long[:api.MaxWave-1])
	checkProduct(t, long[:api.MaxWave/2], long[:api.MaxWave/2], long[:api.MaxWave-1])
}

// productByWords: sums, one by one.
func productByWords(a, b []int) []int {
	if len(a) == 0 || len(b) == 0 {
		return nil
	}
	l := make([]int, len(a)+len(b)-1)
	for i := range a {
		for j := range b {
			l[i+j] += a[i] * b[j]
		}
	}
	return l
}

func TestProductAgainstModel(t *testing.T) {
	source := rand.New(rand.NewPCG(17, 3))
	some := func(length, kind int) []int {
		l := make([]int, length)
		for i := range l {
			switch kind {
			case 0:
				l[i] = source.IntN(513) - 256
			case 1:
				l[i] = 256
			case 2:
				l[i] = -256
			case 3:
				l[i] = 512*source.IntN(2) - 256
			case 4:
				l[i] = source.IntN(3) - 1
			}
		}
		return l
	}
	for range 3000 {
		a, b := some(source.IntN(40), source.IntN(5)), some(source.IntN(40), source.IntN(5))
		checkProduct(t, a, b, productByWords(a, b))
	}
	for _, length := range []int{1, 2, 1023, 1024, 2047, 2048} {
		for kind := range 5 {
			a, b := some(api.MaxWave-length, kind), some(length, source.IntN(5))
			checkProduct(t, a, b, productByWords(a, b))
			checkProduct(t, b, a[1:], productByWords(a[1:], b))
		}
	}
}

func TestProductIsNew(t *testing.T) {
	room := []int{1, 2, 3, 4, 5}
	first, _ := Product(room[:2], room[:2])
	second, _ := Product(room[:2], room[:2])
	clear(second[:cap(second)])
	if !slices.Equal(room, []int{1, 2, 3, 4, 5}) || !slices.Equal(first, []int{1, 4, 4}) {
		t.Errorf("memory is changed or shared: %v, %v", room, first)
	}
}
