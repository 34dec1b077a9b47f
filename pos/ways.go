package pos

import (
	"iter"
	"math/bits"
	"slices"

	"astragal/api"
)

const (
	noWay = 0 // of a set that wasn't made by anyone

	wordBits = 64
)

// way is how a set's numbers are kept. A Set asks it of such at alone as it has a place for.
type way interface {
	rep() int
	numbers() iter.Seq[int] // rising
	has(at int) bool        // at is from 0 to n less 1
	below(at int) int       // at is from 0 to n
}

// isWay tells whether sets are made in such a way.
func isWay(rep int) bool {
	switch rep {
	case api.RepRanges, api.RepBits, api.RepList:
		return true
	}
	return false
}

// laid is a set of some numbers below n, which rise.
func laid(n int, rising iter.Seq[int], rep int) Set {
	switch rep {
	case api.RepRanges:
		return Set{n: n, kept: toRanges(rising)}
	case api.RepBits:
		return Set{n: n, kept: toBitmap(n, rising)}
	case api.RepList:
		return Set{n: n, kept: list(slices.Collect(rising))}
	}
	// In no way is only a set that wasn't made by anyone, and what comes of such is one.
	return Set{}
}

// span is a range of numbers, with its end not in it.
type span struct {
	from, end int
}

// side tells whether all of a span is below a number (-1), or above it (1), or the number is in it.
func (s span) side(at int) int {
	switch {
	case s.end <= at:
		return -1
	case s.from > at:
		return 1
	}
	return 0
}

// ranges are spans that rise, of which no two touch.
type ranges []span

func toRanges(rising iter.Seq[int]) ranges {
	var r ranges
	for at := range rising {
		if last := len(r) - 1; last >= 0 && r[last].end == at {
			r[last].end++
			continue
		}
		r = append(r, span{from: at, end: at + 1})
	}
	return r
}

func (r ranges) rep() int {
	return api.RepRanges
}

func (r ranges) numbers() iter.Seq[int] {
	return func(yield func(int) bool) {
		for _, s := range r {
			for at := s.from; at < s.end; at++ {
				if !yield(at) {
					return
				}
			}
		}
	}
}

func (r ranges) has(at int) bool {
	_, is := slices.BinarySearchFunc(r, at, span.side)
	return is
}

func (r ranges) below(at int) int {
	n := 0
	for _, s := range r {
		n += max(0, min(at, s.end)-s.from)
	}
	return n
}

// bitmap has a bit for each number, the lowest one first.
type bitmap []uint64

func toBitmap(n int, rising iter.Seq[int]) bitmap {
	b := make(bitmap, (n+wordBits-1)/wordBits)
	for at := range rising {
		b[at/wordBits] |= 1 << (at % wordBits)
	}
	return b
}

func (b bitmap) rep() int {
	return api.RepBits
}

func (b bitmap) numbers() iter.Seq[int] {
	return func(yield func(int) bool) {
		for i, word := range b {
			for ; word != 0; word &= word - 1 {
				if !yield(i*wordBits + bits.TrailingZeros64(word)) {
					return
				}
			}
		}
	}
}

func (b bitmap) has(at int) bool {
	return b[at/wordBits]>>(at%wordBits)&1 == 1
}

func (b bitmap) below(at int) int {
	n := 0
	for _, word := range b[:at/wordBits] {
		n += bits.OnesCount64(word)
	}
	// Where at is the end of the last word, there is no word that it stands in.
	if rest := at % wordBits; rest > 0 {
		n += bits.OnesCount64(b[at/wordBits] << (wordBits - rest))
	}
	return n
}

// list are the numbers, rising.
type list []int

func (l list) rep() int {
	return api.RepList
}

func (l list) numbers() iter.Seq[int] {
	return slices.Values(l)
}

func (l list) has(at int) bool {
	_, is := slices.BinarySearch(l, at)
	return is
}

func (l list) below(at int) int {
	n, _ := slices.BinarySearch(l, at)
	return n
}

// unmade is of a set that wasn't made by anyone: a list of none, but in no way.
type unmade struct{ list }

func (u unmade) rep() int {
	return noWay
}
