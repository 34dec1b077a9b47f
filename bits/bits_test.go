package bits_test

import (
	"math"
	"slices"
	"strings"
	"testing"

	"astragal/api"
	"astragal/bits"
)

const greatest = math.MaxUint64

// wrongWidths are widths that no call takes.
func wrongWidths() []int {
	return []int{-1, 65, -64, 128, math.MinInt, math.MaxInt}
}

// digits spells a number as the document does: width digits, the lowest first.
func digits(n uint64, width int) string {
	var s strings.Builder
	for i := range width {
		s.WriteByte('0' + byte(n>>i&1))
	}
	return s.String()
}

// filled is bytes of digits, the first digit the first byte's lowest bit, the last byte filled with zeros.
func filled(s string) []byte {
	b := make([]byte, (len(s)+7)/8)
	for i, c := range s {
		if c == '1' {
			b[i/8] += 1 << (i % 8)
		}
	}
	return b
}

// mixed are numbers that look like chance, and are the same each time.
func mixed(seed uint64, n int) []uint64 {
	l := make([]uint64, n)
	for i := range l {
		seed = seed*6364136223846793005 + 1442695040888963407
		l[i] = seed ^ seed>>29
	}
	return l
}

func cut(n uint64, width int) uint64 {
	return n & (1<<width - 1)
}

func cutAll(l []uint64, width int) []uint64 {
	out := make([]uint64, len(l))
	for i, n := range l {
		out[i] = cut(n, width)
	}
	return out
}

// P1.1: the bits stand one behind the other, of all widths at all places of a byte.
func TestPutLaysBitsBehindEachOther(t *testing.T) {
	for ahead := range 9 {
		for width := range 65 {
			for _, n := range []uint64{0, 1, 0x5555555555555555, 0xAAAAAAAAAAAAAAAA, 0x0123456789ABCDEF, 1 << 63, greatest} {
				n = cut(n, width)
				w := &bits.Writer{}
				lead := cut(0b10110101, ahead)
				if e := w.Put(lead, ahead); e != api.OK {
					t.Fatal(ahead, e)
				}
				if e := w.Put(n, width); e != api.OK {
					t.Fatal(n, width, e)
				}
				want := digits(lead, ahead) + digits(n, width)
				if w.Len() != len(want) || !slices.Equal(w.Bytes(), filled(want)) {
					t.Fatal(ahead, width, n, w.Len(), w.Bytes())
				}
			}
		}
	}
}

// P1.1: a width or a number that may not be is refused, and nothing changes.
func TestPutRefuses(t *testing.T) {
	w := &bits.Writer{}
	w.Put(5, 3)
	same := func(n uint64, width int) {
		t.Helper()
		if e := w.Put(n, width); e != api.ErrArg || w.Len() != 3 || !slices.Equal(w.Bytes(), []byte{5}) {
			t.Error(n, width, e, w.Len(), w.Bytes())
		}
	}
	for _, width := range wrongWidths() {
		same(0, width)
		same(greatest, width)
	}
	for width := range 64 {
		same(1<<width, width)
		same(greatest, width)
	}
	if e := w.Put(greatest, 64); e != api.OK || w.Len() != 67 {
		t.Error(e, w.Len())
	}
}

// P1.1: a Writer that wasn't made by anyone is empty, and a number of no bits leaves it so.
func TestWriterBeginsEmpty(t *testing.T) {
	var w bits.Writer
	for range 2 {
		if w.Len() != 0 || len(w.Bytes()) != 0 {
			t.Error(w.Len(), w.Bytes())
		}
		if e := w.Put(0, 0); e != api.OK {
			t.Error(e)
		}
	}
}

// P1.1 and R3: the bytes that were told are the caller's own, either way.
func TestBytesAreTheCallersOwn(t *testing.T) {
	w := &bits.Writer{}
	w.Put(1, 1)
	first := w.Bytes()
	w.Put(0x7F, 7)
	if !slices.Equal(first, []byte{1}) {
		t.Error("a Put changed bytes that were told", first)
	}
	w.Bytes()[0] = 0
	if !slices.Equal(w.Bytes(), []byte{0xFF}) {
		t.Error("the writer has changed", w.Bytes())
	}
	w.Put(1, 1)
	if !slices.Equal(w.Bytes(), []byte{0xFF, 1}) || w.Len() != 9 {
		t.Error(w.Bytes(), w.Len())
	}
}

// P1.1: Get tells the next number, and Left what is left.
func TestGetTellsTheNext(t *testing.T) {
	b := []byte{0x8D, 0x3A, 0xFF, 0x00, 0x71, 0x5C, 0xE2, 0x19, 0xB4}
	all := ""
	for _, c := range b {
		all += digits(uint64(c), 8)
	}
	for ahead := range 9 {
		for width := range 65 {
			r := bits.From(b)
			if r.Left() != 72 {
				t.Fatal(r.Left())
			}
			n, e := r.Get(ahead)
			if e != api.OK || digits(n, 64)[:ahead] != all[:ahead] || n != cut(n, ahead) {
				t.Fatal(ahead, n, e)
			}
			n, e = r.Get(width)
			if e != api.OK || digits(n, width) != all[ahead:ahead+width] || n != cut(n, width) {
				t.Fatal(ahead, width, n, e)
			}
			if r.Left() != 72-ahead-width {
				t.Fatal(ahead, width, r.Left())
			}
		}
	}
}

// P1.1: Get refuses wrong widths and what isn't there, and nothing changes.
func TestGetRefuses(t *testing.T) {
	r := bits.From([]byte{0xA5})
	r.Get(3)
	for _, width := range wrongWidths() {
		if n, e := r.Get(width); n != 0 || e != api.ErrArg || r.Left() != 5 {
			t.Error(width, n, e, r.Left())
		}
	}
	for width := 6; width <= 64; width++ {
		if n, e := r.Get(width); n != 0 || e != api.ErrShort || r.Left() != 5 {
			t.Error(width, n, e, r.Left())
		}
	}
	if n, e := r.Get(5); n != 0xA5>>3 || e != api.OK || r.Left() != 0 {
		t.Error(n, e, r.Left())
	}
	if n, e := r.Get(0); n != 0 || e != api.OK || r.Left() != 0 {
		t.Error(n, e)
	}
	if n, e := r.Get(1); n != 0 || e != api.ErrShort {
		t.Error(n, e)
	}
	if n, e := r.Get(65); n != 0 || e != api.ErrArg {
		t.Error("at the end, too, a wrong width is named first", n, e)
	}
}

// P1.1 and R2: a reader of nothing is there, and has no bits.
func TestFromNothing(t *testing.T) {
	for _, r := range []*bits.Reader{bits.From(nil), bits.From([]byte{}), {}} {
		if r == nil || r.Left() != 0 {
			t.Fatal(r)
		}
		if n, e := r.Get(0); n != 0 || e != api.OK {
			t.Error(n, e)
		}
		if n, e := r.Get(1); n != 0 || e != api.ErrShort {
			t.Error(n, e)
		}
	}
}

// P1.1 and R3: a reader shares nothing with the bytes it was made from, nor with another reader.
func TestFromKeepsNothingOfTheCallers(t *testing.T) {
	b := []byte{0x12, 0x34}
	r, other := bits.From(b), bits.From(b)
	if n, e := r.Get(16); n != 0x3412 || e != api.OK || !slices.Equal(b, []byte{0x12, 0x34}) {
		t.Error(n, e, b)
	}
	b[0], b[1] = 0xFF, 0xFF
	if n, e := other.Get(16); n != 0x3412 || e != api.OK {
		t.Error(n, e)
	}
}

// P1.2: the least width that all have room in.
func TestWidth(t *testing.T) {
	for k, c := range []struct {
		l    []uint64
		want int
	}{
		{nil, 0},
		{[]uint64{}, 0},
		{[]uint64{0, 0, 0}, 0},
		{[]uint64{1}, 1},
		{[]uint64{4, 3}, 3},
		{[]uint64{3, 4}, 3},
		{[]uint64{1, 9, 2}, 4},
		{[]uint64{0, greatest}, 64},
		{[]uint64{greatest, 0}, 64},
	} {
		if w := bits.Width(c.l); w != c.want {
			t.Error(k, w)
		}
	}
	for width := range 64 {
		if w := bits.Width([]uint64{1 << width}); w != width+1 {
			t.Error(width, w)
		}
		if w := bits.Width([]uint64{0, 1<<width - 1, 0}); w != width {
			t.Error(width, w)
		}
	}
}

// P1.2: it is the least: Pack takes it, and nothing less.
func TestWidthIsWhatPackTakes(t *testing.T) {
	for seed := range uint64(65) {
		l := cutAll(mixed(seed, 7), int(seed))
		width := bits.Width(l)
		if _, e := bits.Pack(l, width); e != api.OK {
			t.Error(l, width, e)
		}
		if _, e := bits.Pack(l, width-1); e != api.ErrArg {
			t.Error(l, width-1, e)
		}
	}
}

// P1.2: Pack is the Bytes.
func TestPack(t *testing.T) {
	for k, c := range []struct {
		l     []uint64
		width int
		want  []byte
	}{
		{[]uint64{5, 1, 7}, 3, []byte{0xCD, 0x01}},
		{nil, 0, nil},
		{nil, 64, nil},
		{[]uint64{}, 7, nil},
		{[]uint64{0, 0, 0}, 0, nil},
		{[]uint64{1}, 1, []byte{1}},
		{[]uint64{1, 0, 0, 0, 0, 0, 0, 1, 1}, 1, []byte{0x81, 0x01}},
		{[]uint64{0x0123, 0x4567}, 16, []byte{0x23, 0x01, 0x67, 0x45}},
		{[]uint64{0x0123456789ABCDEF, 1}, 64, []byte{0xEF, 0xCD, 0xAB, 0x89, 0x67, 0x45, 0x23, 0x01, 1, 0, 0, 0, 0, 0, 0, 0}},
	} {
		was := slices.Clone(c.l)
		if b, e := bits.Pack(c.l, c.width); !slices.Equal(b, c.want) || e != api.OK || !slices.Equal(c.l, was) {
			t.Error(k, b, e)
		}
	}
}

// P1.2: Pack has the first error of Put, of no numbers that of the width.
func TestPackRefuses(t *testing.T) {
	for _, width := range wrongWidths() {
		for _, l := range [][]uint64{nil, {0}, {1, 2}} {
			if b, e := bits.Pack(l, width); len(b) != 0 || e != api.ErrArg {
				t.Error(l, width, b, e)
			}
		}
	}
	for width := range 64 {
		for _, l := range [][]uint64{{1 << width}, {0, 0, 1 << width}, {0, greatest, 0}} {
			if b, e := bits.Pack(l, width); len(b) != 0 || e != api.ErrArg {
				t.Error(l, width, b, e)
			}
		}
	}
}

// P1.2: Unpack tells the numbers, or why there are none.
func TestUnpack(t *testing.T) {
	for k, c := range []struct {
		b        []byte
		n, width int
		want     []uint64
		e        api.Errno
	}{
		{[]byte{0xCD, 0x01}, 3, 3, []uint64{5, 1, 7}, api.OK},
		{nil, 0, 0, nil, api.OK},
		{[]byte{}, 0, 64, nil, api.OK},
		{nil, 3, 0, []uint64{0, 0, 0}, api.OK},
		{[]byte{0xEF, 0xCD, 0xAB, 0x89, 0x67, 0x45, 0x23, 0x01}, 1, 64, []uint64{0x0123456789ABCDEF}, api.OK},
		{[]byte{0xFF}, 8, 1, []uint64{1, 1, 1, 1, 1, 1, 1, 1}, api.OK},
		{[]byte{0x7F}, 7, 1, []uint64{1, 1, 1, 1, 1, 1, 1}, api.OK},

		{nil, 1, 1, nil, api.ErrShort},
		{[]byte{0xCD}, 3, 3, nil, api.ErrShort},
		{[]byte{0xFF}, 9, 1, nil, api.ErrShort},
		{make([]byte, 7), 1, 64, nil, api.ErrShort},
		{nil, 1 << 20, 64, nil, api.ErrShort},

		{[]byte{0xCD, 0x01, 0}, 3, 3, nil, api.ErrForm},
		{[]byte{0}, 0, 5, nil, api.ErrForm},
		{[]byte{0}, 4, 0, nil, api.ErrForm},
		{make([]byte, 9), 1, 64, nil, api.ErrForm},
		{[]byte{0xFF, 0}, 8, 1, nil, api.ErrForm},
		{[]byte{0x80}, 7, 1, nil, api.ErrForm},
		{[]byte{0xCD, 0x03}, 3, 3, nil, api.ErrForm},
		{[]byte{0xCD, 0x81}, 3, 3, nil, api.ErrForm},
	} {
		was := slices.Clone(c.b)
		if l, e := bits.Unpack(c.b, c.n, c.width); !slices.Equal(l, c.want) || e != c.e || !slices.Equal(c.b, was) {
			t.Error(k, l, e)
		}
	}
}

// P1.2: each bit behind the last number is looked at, and none of the numbers' own.
func TestUnpackBitsBehind(t *testing.T) {
	for n := range 25 {
		b := make([]byte, (n+7)/8)
		for at := range len(b) * 8 {
			clear(b)
			b[at/8] = 1 << (at % 8)
			want := make([]uint64, n)
			e := api.ErrForm
			if at < n {
				want[at], e = 1, api.OK
			} else {
				want = nil
			}
			if l, got := bits.Unpack(b, n, 1); !slices.Equal(l, want) || got != e {
				t.Error(n, at, l, got)
			}
		}
	}
}

// P1.2 and R1: a wrong width or number of numbers is named ahead of what the bytes lack.
func TestUnpackRefusesArguments(t *testing.T) {
	for _, b := range [][]byte{nil, {0}, {0xFF, 0xFF}} {
		for _, width := range wrongWidths() {
			for _, n := range []int{0, 1, 1 << 20} {
				if l, e := bits.Unpack(b, n, width); len(l) != 0 || e != api.ErrArg {
					t.Error(b, n, width, len(l), e)
				}
			}
		}
		for _, n := range []int{-1, math.MinInt, 1<<20 + 1, math.MaxInt, math.MaxInt/64 + 1} {
			for _, width := range []int{0, 1, 8, 64} {
				if l, e := bits.Unpack(b, n, width); len(l) != 0 || e != api.ErrArg {
					t.Error(b, n, width, len(l), e)
				}
			}
		}
	}
}

// P1.2: 2^20 numbers are not too many.
func TestUnpackTheMost(t *testing.T) {
	const most = 1 << 20
	if l, e := bits.Unpack(nil, most, 0); len(l) != most || e != api.OK || slices.Max(l) != 0 {
		t.Error(len(l), e)
	}
	for _, width := range []int{1, 13, 64} {
		l := cutAll(mixed(9, most), width)
		b, e := bits.Pack(l, width)
		if e != api.OK || len(b) != most*width/8 {
			t.Fatal(width, len(b), e)
		}
		if got, e := bits.Unpack(b, most, width); e != api.OK || !slices.Equal(got, l) {
			t.Error(width, len(got), e)
		}
		if got, e := bits.Unpack(b[:len(b)-1], most, width); e != api.ErrShort || len(got) != 0 {
			t.Error(width, len(got), e)
		}
	}
}

// P1.2: of a Reader, or Writer, that is nil: ErrArg, 0, nothing.
func TestNil(t *testing.T) {
	var w *bits.Writer
	var r *bits.Reader
	for _, width := range append(wrongWidths(), 0, 1, 64) {
		if e := w.Put(0, width); e != api.ErrArg {
			t.Error(width, e)
		}
		if n, e := r.Get(width); n != 0 || e != api.ErrArg {
			t.Error(width, n, e)
		}
	}
	if w.Len() != 0 || len(w.Bytes()) != 0 || r.Left() != 0 {
		t.Error(w.Len(), w.Bytes(), r.Left())
	}
}

// P1.3: what was put is got, with widths that change.
func TestPutIsGot(t *testing.T) {
	for seed := range uint64(50) {
		l := mixed(seed, 200)
		widths := make([]int, len(l))
		w := &bits.Writer{}
		sum := 0
		for i, n := range mixed(seed+1000, len(l)) {
			widths[i] = int(n % 65)
			l[i] = cut(l[i], widths[i])
			sum += widths[i]
			if e := w.Put(l[i], widths[i]); e != api.OK || w.Len() != sum {
				t.Fatal(seed, i, e, w.Len())
			}
		}
		r := bits.From(w.Bytes())
		for i, width := range widths {
			if n, e := r.Get(width); n != l[i] || e != api.OK {
				t.Fatal(seed, i, n, e)
			}
		}
		if r.Left() != (8-sum%8)%8 {
			t.Error(seed, r.Left())
		}
	}
}

// P1.3: what was packed is unpacked.
func TestPackedIsUnpacked(t *testing.T) {
	for width := range 65 {
		for n := range 20 {
			l := cutAll(mixed(uint64(width), n), width)
			b, e := bits.Pack(l, width)
			if e != api.OK || len(b) != (n*width+7)/8 {
				t.Fatal(width, n, len(b), e)
			}
			if got, e := bits.Unpack(b, n, width); !slices.Equal(got, l) || e != api.OK {
				t.Fatal(width, n, got, e)
			}
		}
	}
}

// P1.3: what is unpacked is packed as the very bytes, and any bytes are taken or refused.
func TestUnpackedIsPacked(t *testing.T) {
	taken := 0
	for size := range 6 {
		for seed := range uint64(16) {
			b := make([]byte, size)
			for i, n := range mixed(seed, size) {
				// Small last bytes, too, so that there are such with nothing behind the last number.
				b[i] = byte(n>>8) >> (seed % 8)
			}
			taken += packAgain(t, b)
		}
	}
	if taken < 1000 {
		t.Error("too few were taken to tell", taken)
	}
}

func packAgain(t *testing.T, b []byte) (taken int) {
	t.Helper()
	for width := range 65 {
		for n := range 10 {
			l, e := bits.Unpack(b, n, width)
			if e != api.OK {
				if len(l) != 0 {
					t.Error(b, n, width, l, e)
				}
				continue
			}
			taken++
			if got, e := bits.Pack(l, width); len(l) != n || !slices.Equal(got, b) || e != api.OK {
				t.Error(b, n, width, l, got, e)
			}
		}
	}
	return taken
}

// P1 and P1.3: whatever the bytes and numbers, Unpack ends with the one answer that the document has.
func FuzzUnpack(f *testing.F) {
	f.Add([]byte{0xCD, 0x01}, 3, 3)
	f.Add([]byte{}, 1<<20, 0)
	f.Add([]byte{0}, -1, 65)
	f.Fuzz(func(t *testing.T, b []byte, n, width int) {
		l, e := bits.Unpack(b, n, width)
		if e != wantOfUnpack(b, n, width) {
			t.Fatal(b, n, width, e)
		}
		if e != api.OK {
			if len(l) != 0 {
				t.Fatal(l, e)
			}
			return
		}
		if got, e := bits.Pack(l, width); len(l) != n || !slices.Equal(got, b) || e != api.OK {
			t.Fatal(b, n, width, got, e)
		}
	})
}

// wantOfUnpack is P1.2's words on the digits of b.
func wantOfUnpack(b []byte, n, width int) api.Errno {
	if width < 0 || width > 64 || n < 0 || n > 1<<20 {
		return api.ErrArg
	}
	all := ""
	for _, c := range b {
		all += digits(uint64(c), 8)
	}
	if len(all) < n*width {
		return api.ErrShort
	}
	behind := all[n*width:]
	if len(behind) >= 8 || strings.Contains(behind, "1") {
		return api.ErrForm
	}
	return api.OK
}
