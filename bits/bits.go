// Package bits is layer 1: see shared/doc/01-bits.md.
package bits

import (
	"math/bits"
	"slices"

	"astragal/api"
)

const (
	maxWidth   = 64
	maxNumbers = 1 << 20
)

// Writer is bits that were put.
type Writer struct {
	b []byte
	n int
}

// Reader is bits that are left.
type Reader struct {
	b  []byte
	at int
}

// Put puts a number's bits.
func (w *Writer) Put(n uint64, width int) api.Errno {
	if w == nil || !mayWidth(width) || n>>width != 0 {
		return api.ErrArg
	}
	for i := range width {
		w.add(byte(n>>i) & 1)
	}
	return api.OK
}

func (w *Writer) add(bit byte) {
	place := w.n % 8
	if place == 0 {
		w.b = append(w.b, 0)
	}
	w.b[len(w.b)-1] |= bit << place
	w.n++
}

// Bytes are all bits.
func (w *Writer) Bytes() []byte {
	if w == nil {
		return nil
	}
	// A later Put changes the last byte in its place: the caller gets bytes of its own.
	return slices.Clone(w.b)
}

// Len is how many bits there are.
func (w *Writer) Len() int {
	if w == nil {
		return 0
	}
	return w.n
}

// From is a reader of bits.
func From(b []byte) *Reader {
	// The caller may change b while the reader is still in use.
	return &Reader{b: slices.Clone(b)}
}

// Left is how many bits are left.
func (r *Reader) Left() int {
	if r == nil {
		return 0
	}
	return len(r.b)*8 - r.at
}

// Get gets a number.
func (r *Reader) Get(width int) (uint64, api.Errno) {
	if r == nil || !mayWidth(width) {
		return 0, api.ErrArg
	}
	if r.Left() < width {
		return 0, api.ErrShort
	}
	n := uint64(0)
	for i := range width {
		n |= uint64(r.next()) << i
	}
	return n, api.OK
}

func (r *Reader) next() byte {
	bit := r.b[r.at/8] >> (r.at % 8) & 1
	r.at++
	return bit
}

// Width is the width that numbers need.
func Width(l []uint64) int {
	all := uint64(0)
	for _, n := range l {
		all |= n
	}
	return bits.Len64(all)
}

// Pack is numbers' bits.
func Pack(l []uint64, width int) ([]byte, api.Errno) {
	// Without a number no Put would find a wrong width.
	if !mayWidth(width) {
		return nil, api.ErrArg
	}
	w := &Writer{}
	for _, n := range l {
		if e := w.Put(n, width); e != api.OK {
			return nil, e
		}
	}
	return w.Bytes(), api.OK
}

// Unpack is numbers of bits.
func Unpack(b []byte, n, width int) ([]uint64, api.Errno) {
	if !mayWidth(width) || n < 0 || n > maxNumbers {
		return nil, api.ErrArg
	}
	if e := justBits(b, n*width); e != api.OK {
		return nil, e
	}
	r := From(b)
	l := make([]uint64, n)
	for i := range l {
		// justBits saw to it that there are enough.
		l[i], _ = r.Get(width)
	}
	return l, api.OK
}

func mayWidth(width int) bool {
	return 0 <= width && width <= maxWidth
}

// justBits tells whether b is so many bits and what fills its last byte.
func justBits(b []byte, n int) api.Errno {
	need := (n + 7) / 8
	if len(b) < need {
		return api.ErrShort
	}
	if len(b) > need {
		return api.ErrForm
	}
	if used := n % 8; used != 0 && b[need-1]>>used != 0 {
		return api.ErrForm
	}
	return api.OK
}
