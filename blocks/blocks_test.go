package blocks

import "testing"

func TestOrderHasEachOnce(t *testing.T) {
	var met [19]int
	for _, symbol := range Order() {
		met[symbol]++
	}
	for symbol, n := range met {
		if n != 1 {
			t.Errorf("%d stands there %d times", symbol, n)
		}
	}
}

func TestFixedLengths(t *testing.T) {
	l, d := FixedLiterals(), FixedDistances()
	if len(l) != 288 || len(d) != 32 {
		t.Fatalf("%d literals, %d distances", len(l), len(d))
	}
	for symbol, want := range map[int]int{0: 8, 143: 8, 144: 9, 255: 9, 256: 7, 279: 7, 280: 8, 287: 8} {
		if l[symbol] != want {
			t.Errorf("%d has %d bits, want %d", symbol, l[symbol], want)
		}
	}
	for symbol, n := range d {
		if n != 5 {
			t.Errorf("the distance %d has %d bits", symbol, n)
		}
	}
}
