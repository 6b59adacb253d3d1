// Package bitio is layer 2: numbers as bits behind each other: see shared/doc/02-bitio.md.
package bitio

import (
	"shuttle/api"
	"shuttle/bits"
)

const maxWidth = 32

func isWidth(width int) bool { return 1 <= width && width <= maxWidth }

// Writer puts numbers as bits. Its zero value has none.
type Writer struct {
	put []byte // bits
}

// Put: a number in so many bits, the highest first.
func (w *Writer) Put(n, width int) api.Errno {
	if w == nil || !isWidth(width) {
		return api.ErrArg
	}
	if n < 0 || uint64(n)>>width != 0 {
		return api.ErrField
	}
	for i := width - 1; i >= 0; i-- {
		w.put = append(w.put, byte(uint64(n)>>i&1))
	}
	return api.OK
}

// Bytes: all, with noughts behind up to a whole byte.
func (w *Writer) Bytes() []byte {
	if w == nil {
		return nil
	}
	// No error can come: only Put fills the list, and it puts bits alone.
	b, _ := bits.Bytes(w.put)
	return b
}

// Len: how many bits were put.
func (w *Writer) Len() int {
	if w == nil {
		return 0
	}
	return len(w.put)
}

// Reader takes numbers from bits.
type Reader struct {
	left []byte // bits
}

// Of: bytes. Their bits are new memory, so the bytes aren't kept.
func Of(b []byte) *Reader { return &Reader{left: bits.Of(b)} }

// Take: the number of the next so many bits, the highest first.
func (r *Reader) Take(width int) (int, api.Errno) {
	if r == nil || !isWidth(width) {
		return 0, api.ErrArg
	}
	if len(r.left) < width {
		return 0, api.ErrShort
	}
	n := 0
	for _, x := range r.left[:width] {
		n = n<<1 | int(x)
	}
	r.left = r.left[width:]
	return n, api.OK
}

// Left: how many bits there are still.
func (r *Reader) Left() int {
	if r == nil {
		return 0
	}
	return len(r.left)
}

// Pad: the last ones, fewer than eight and all noughts, are taken.
func (r *Reader) Pad() api.Errno {
	if r == nil {
		return api.ErrArg
	}
	if len(r.left) >= 8 {
		return api.ErrTail
	}
	if bits.Weight(r.left) != 0 {
		return api.ErrField
	}
	r.left = nil
	return api.OK
}
