package wave

import (
	"math"
	"math/bits"
	"slices"
)

// circle transforms lists of one length, a power of two.
type circle struct {
	length int
	roots  []complex128 // of 1: those of the first half of the way round
}

func newCircle(length int) circle {
	roots := make([]complex128, length/2)
	for k := range roots {
		angle := -2 * math.Pi * float64(k) / float64(length)
		roots[k] = complex(math.Cos(angle), math.Sin(angle))
	}
	return circle{length: length, roots: roots}
}

// circleFor: the least one that has room for so many numbers.
func circleFor(count int) circle {
	length := 1
	for length < count {
		length *= 2
	}
	return newCircle(length)
}

// laid: whole numbers at their places, and 0 behind them.
func (c circle) laid(l []int) []complex128 {
	x := make([]complex128, c.length)
	for i, n := range l {
		x[i] = complex(float64(n), 0)
	}
	return x
}

// forth: the transform. Each number by itself is its own; two by two they are joined to longer ones.
func (c circle) forth(x []complex128) []complex128 {
	y := crossed(x)
	for half := 1; half < c.length; half *= 2 {
		for from := 0; from < c.length; from += 2 * half {
			middle := from + half
			c.join(y[from:middle], y[middle:middle+half])
		}
	}
	return y
}

// crossed: each number at the place that has its own place's bits the other way round; so what stood at even places is ahead of what stood at odd ones, and in both halves again.
func crossed(x []complex128) []complex128 {
	y := make([]complex128, len(x))
	unused := bits.LeadingZeros32(uint32(len(x) - 1))
	for i, v := range x {
		y[bits.Reverse32(uint32(i))>>unused] = v
	}
	return y
}

// join makes of the transforms of what stood at even and at odd places that of both, the first half of it in even.
func (c circle) join(even, odd []complex128) {
	stride := len(c.roots) / len(even)
	for k, e := range even {
		o := odd[k] * c.roots[k*stride]
		even[k] = e + o
		odd[k] = e - o
	}
}

// back: the way back, which is the way forth with the roots the other way round, divided.
func (c circle) back(x []complex128) []complex128 {
	y := c.forth(x)
	slices.Reverse(y[1:])
	n := float64(c.length)
	for k, v := range y {
		y[k] = complex(real(v)/n, imag(v)/n)
	}
	return y
}
