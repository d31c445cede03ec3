// Package bits is layer 1: see shared/doc/01-bits.md.
package bits

import "ferret/api"

// most is how many bits one call takes or puts at the most.
const most = 32

// Reader takes bits from bytes, the lowest bit of each byte first.
type Reader struct {
	data  string
	taken int // bits
}

// Open: a reader of bytes.
func Open(s string) *Reader {
	return &Reader{data: s}
}

// Peek: the next bits, without taking them.
func (r *Reader) Peek(n int) (int, int) {
	if r == nil || !fits(n) {
		return 0, 0
	}
	there := min(n, r.Left())
	first, skip := r.taken/8, r.taken%8
	v := 0
	// At most 7 + 32 bits are gathered, so the bytes find room in an int.
	for i := range wholeBytes(skip + there) {
		v |= int(r.data[first+i]) << (8 * i)
	}
	return v >> skip & (1<<there - 1), there
}

// Take: the next bits as a number, the first one the lowest.
func (r *Reader) Take(n int) (int, api.Errno) {
	if r == nil || !fits(n) {
		return 0, api.ErrArg
	}
	v, there := r.Peek(n)
	if there < n {
		return 0, api.ErrEnd
	}
	r.taken += n
	return v, api.OK
}

// Bytes: whole bytes, from the next whole byte on.
func (r *Reader) Bytes(n int) (string, api.Errno) {
	if r == nil || n < 0 {
		return "", api.ErrArg
	}
	from := wholeBytes(r.taken)
	// Held against what is left, since from + n may be above the greatest int.
	if n > len(r.data)-from {
		return "", api.ErrEnd
	}
	r.taken = 8 * (from + n)
	return r.data[from : from+n], api.OK
}

// Taken: how many bits were taken.
func (r *Reader) Taken() int {
	if r == nil {
		return 0
	}
	return r.taken
}

// Left: how many bits are left.
func (r *Reader) Left() int {
	if r == nil {
		return 0
	}
	return 8*len(r.data) - r.taken
}

// Writer puts bits into bytes.
type Writer struct {
	data []byte // the last one may be open: its bits that weren't put are nought
	put  int    // bits
}

// Put: the lowest bits of a number, the lowest first.
func (w *Writer) Put(v, n int) {
	if w == nil || !fits(n) {
		return
	}
	for i := range n {
		w.bit(v >> i & 1)
	}
}

// Code: the lowest bits of a number, the highest first.
func (w *Writer) Code(v, n int) {
	if w == nil || !fits(n) {
		return
	}
	for i := range n {
		w.bit(v >> (n - 1 - i) & 1)
	}
}

// Bytes: whole bytes, behind bits of nought.
func (w *Writer) Bytes(s string) {
	if w == nil {
		return
	}
	w.data = append(w.data, s...)
	w.put = 8 * len(w.data)
}

// All: all bytes, the last one filled up with bits of nought.
func (w *Writer) All() string {
	if w == nil {
		return ""
	}
	return string(w.data)
}

func (w *Writer) bit(b int) {
	if w.put%8 == 0 {
		w.data = append(w.data, 0)
	}
	w.data[w.put/8] |= byte(b << (w.put % 8))
	w.put++
}

func fits(n int) bool {
	return 0 <= n && n <= most
}

// wholeBytes: how many bytes n bits touch, which is also where the next whole byte begins behind them.
func wholeBytes(n int) int {
	return (n + 7) / 8
}
