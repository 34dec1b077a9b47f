package crc_test

import (
	"bytes"
	"hash/crc32"
	"math"
	"slices"
	"testing"

	"astragal/api"
	"astragal/crc"
	"astragal/leb"
)

const sumSize = 4

// mixed are bytes that look like chance, and are the same each time.
func mixed(seed uint64, n int) []byte {
	b := make([]byte, n)
	for i := range b {
		seed = seed*6364136223846793005 + 1442695040888963407
		b[i] = byte(seed >> 56)
	}
	return b
}

// samples are bytes of all lengths beside which a block's number becomes longer, and some of one kind.
func samples() [][]byte {
	l := [][]byte{nil, {}, {0}, {255}, []byte("a"), []byte("123456789"), make([]byte, 300), bytes.Repeat([]byte{255}, 300)}
	for i, n := range []int{1, 2, 3, 4, 5, 126, 127, 128, 129, 1000, 16383, 16384, 70000} {
		l = append(l, mixed(uint64(i), n))
	}
	return l
}

// wantOfSum is the chapter's words on the sum, bit by bit, without a table.
func wantOfSum(b []byte) uint32 {
	register := uint32(math.MaxUint32)
	for _, c := range b {
		for i := range 8 {
			off := register & 1
			register >>= 1
			if off != uint32(c>>i)&1 {
				register ^= 0xEDB88320
			}
		}
	}
	return ^register
}

// wantOfBlock is P3.2's words on a block.
func wantOfBlock(b []byte) []byte {
	s := wantOfSum(b)
	return slices.Concat(leb.Put(uint64(len(b))), b, []byte{byte(s), byte(s >> 8), byte(s >> 16), byte(s >> 24)})
}

// P3.1: the table's rows are those of the sum that all the world has.
func TestTable(t *testing.T) {
	tab := crc.Table()
	for i, want := range map[int]uint32{0: 0, 1: 0x77073096, 2: 0xEE0E612C, 128: 0xEDB88320, 255: 0x2D02EF8D} {
		if tab[i] != want {
			t.Errorf("%d: %x", i, tab[i])
		}
	}
	if tab != [256]uint32(*crc32.IEEETable) {
		t.Errorf("%x", tab)
	}
}

// P3.1: a row is what the register comes to, if it begins with that byte, and eight bits of 0 go through it.
func TestTableRowByRow(t *testing.T) {
	for i, row := range crc.Table() {
		register := uint32(i)
		for range 8 {
			off := register & 1
			register = register>>1 ^ off*0xEDB88320
		}
		if row != register {
			t.Errorf("%d: %x", i, row)
		}
	}
}

// R3 and R4: a table that was told is the caller's own.
func TestTableIsTheCallersOwn(t *testing.T) {
	tab := crc.Table()
	tab[7]++
	if again := crc.Table(); again == tab || again[7] != tab[7]-1 {
		t.Error("a change of one table is seen in another")
	}
}

// P3.1: sums that are known.
func TestSum(t *testing.T) {
	tab := crc.Table()
	for _, c := range []struct {
		b    []byte
		want uint32
	}{
		{nil, 0},
		{[]byte{}, 0},
		{[]byte("a"), 0xE8B7BE43},
		{[]byte("123456789"), 0xCBF43926},
		{[]byte{0}, 0xD202EF8D},
		{[]byte{255}, 0xFF000000},
		{[]byte{255, 255, 255, 255}, 0xFFFFFFFF},
		{make([]byte, 32), 0x190A55AD},
	} {
		was := slices.Clone(c.b)
		if s := crc.Sum(tab, c.b); s != c.want || !slices.Equal(c.b, was) {
			t.Errorf("%x: %x", c.b, s)
		}
	}
}

// P3.1: with that table it is the sum, of all bytes.
func TestSumIsTheSum(t *testing.T) {
	tab := crc.Table()
	check := func(b []byte) {
		s := crc.Sum(tab, b)
		if s != wantOfSum(b) || s != crc32.ChecksumIEEE(b) {
			t.Fatalf("%x: %x", b, s)
		}
	}
	for _, b := range samples() {
		check(b)
	}
	for i := range 256 {
		check([]byte{byte(i)})
		check([]byte{1, byte(i), 2})
	}
	for n := range 200 {
		check(mixed(uint64(n), n))
	}
	if tab != crc.Table() {
		t.Error("the table has changed")
	}
}

// P3.1: with another table it is the same steps.
func TestSumWithAnotherTable(t *testing.T) {
	var none, places, backward [256]uint32
	for i := range places {
		places[i] = uint32(i)
		backward[i] = ^uint32(i) << 13
	}
	for _, c := range []struct {
		t    [256]uint32
		b    []byte
		want uint32
	}{
		{none, nil, 0},
		{none, []byte("a"), 0xFF000000},
		{none, []byte("ab"), 0xFFFF0000},
		{none, []byte("abcd"), 0xFFFFFFFF},
		{none, []byte("abcdefgh"), 0xFFFFFFFF},
		{places, nil, 0},
		// The lowest byte, 0xFF, joined with 0x61 is 0x9E; 0x00FFFFFF joined with that is 0x00FFFF61.
		{places, []byte{0x61}, 0xFF00009E},
	} {
		if s := crc.Sum(c.t, c.b); s != c.want {
			t.Errorf("%x: %x", c.b, s)
		}
	}
	castagnoli := [256]uint32(*crc32.MakeTable(crc32.Castagnoli))
	for _, b := range samples() {
		if s := crc.Sum(castagnoli, b); s != crc32.Checksum(b, crc32.MakeTable(crc32.Castagnoli)) {
			t.Fatalf("%x: %x", b, s)
		}
		register := uint32(math.MaxUint32)
		for _, c := range b {
			register = register/256 ^ backward[register%256^uint32(c)]
		}
		if s := crc.Sum(backward, b); s != ^register {
			t.Fatalf("%x: %x", b, s)
		}
	}
}

// P3.2: a block is the number, the bytes, and the sum, its lowest byte first.
func TestBlock(t *testing.T) {
	for _, c := range []struct {
		b    []byte
		want []byte
	}{
		{nil, []byte{0, 0, 0, 0, 0}},
		{[]byte{}, []byte{0, 0, 0, 0, 0}},
		{[]byte("a"), []byte{1, 'a', 0x43, 0xBE, 0xB7, 0xE8}},
		{[]byte("123456789"), []byte("\x09123456789\x26\x39\xF4\xCB")},
		{[]byte{255}, []byte{1, 255, 0, 0, 0, 255}},
	} {
		if b := crc.Block(c.b); !slices.Equal(b, c.want) {
			t.Errorf("%x: %x", c.b, b)
		}
	}
	for _, b := range samples() {
		was := slices.Clone(b)
		if got := crc.Block(b); !slices.Equal(got, wantOfBlock(was)) || !slices.Equal(b, was) {
			t.Errorf("%x: %x", b, got)
		}
	}
}

// P3.2: Open tells the bytes and what stands behind the block, or the error that is named first.
func TestOpen(t *testing.T) {
	a := crc.Block([]byte("a"))
	none := crc.Block(nil)
	greatest := leb.Put(math.MaxUint64)
	intMost := leb.Put(math.MaxInt)
	for k, c := range []struct {
		b    []byte
		most int
		want []byte
		rest []byte
		e    api.Errno
	}{
		{a, 1, []byte("a"), nil, api.OK},
		{a, 9, []byte("a"), nil, api.OK},
		{a, math.MaxInt, []byte("a"), nil, api.OK},
		{slices.Concat(a, []byte{9}), 1, []byte("a"), []byte{9}, api.OK},
		{slices.Concat(a, a, none), 1, []byte("a"), slices.Concat(a, none), api.OK},
		{none, 0, nil, nil, api.OK},
		{slices.Concat(none, []byte{128, 0}), 0, nil, []byte{128, 0}, api.OK},

		// The number's own errors come ahead of all others.
		{nil, 9, nil, nil, api.ErrShort},
		{[]byte{}, -1, nil, nil, api.ErrShort},
		{[]byte{128}, -1, nil, nil, api.ErrShort},
		{[]byte{128, 0}, 9, nil, nil, api.ErrForm},
		{slices.Concat([]byte{129, 0}, a[1:]), 9, nil, nil, api.ErrForm},
		{[]byte{129, 0}, -1, nil, nil, api.ErrForm},
		{append(bytes.Repeat([]byte{255}, 9), 2), -1, nil, nil, api.ErrForm},

		{a, 0, nil, nil, api.ErrRange},
		{a, -1, nil, nil, api.ErrRange},
		{none, -1, nil, nil, api.ErrRange},
		{none, math.MinInt, nil, nil, api.ErrRange},
		{greatest, 9, nil, nil, api.ErrRange},
		// A number that no int has room for is above any.
		{greatest, math.MaxInt, nil, nil, api.ErrRange},
		{leb.Put(1 << 63), math.MaxInt, nil, nil, api.ErrRange},
		{greatest, -1, nil, nil, api.ErrRange},
		// Above most, and too few bytes, or another sum: the first that is named.
		{[]byte{2, 'a'}, 1, nil, nil, api.ErrRange},
		{[]byte{1, 'b', 0x43, 0xBE, 0xB7, 0xE8}, 0, nil, nil, api.ErrRange},

		{a[:1], 9, nil, nil, api.ErrShort},
		{a[:2], 9, nil, nil, api.ErrShort},
		{a[:5], 9, nil, nil, api.ErrShort},
		{a[:5], 1, nil, nil, api.ErrShort},
		{none[:1], 0, nil, nil, api.ErrShort},
		{none[:4], 0, nil, nil, api.ErrShort},
		{[]byte{3, 1, 2, 3, 4, 5}, 9, nil, nil, api.ErrShort},
		{[]byte{2, 'a', 0x43, 0xBE, 0xB7, 0xE8}, 9, nil, nil, api.ErrShort},
		{intMost, math.MaxInt, nil, nil, api.ErrShort},
		{slices.Concat(intMost, []byte("abcd")), math.MaxInt, nil, nil, api.ErrShort},
		{slices.Concat(intMost, []byte("abcdefghijkl")), math.MaxInt, nil, nil, api.ErrShort},
		{slices.Concat(leb.Put(math.MaxInt-3), []byte("abcdef")), math.MaxInt, nil, nil, api.ErrShort},

		{[]byte{1, 'b', 0x43, 0xBE, 0xB7, 0xE8}, 9, nil, nil, api.ErrCorrupt},
		{[]byte{1, 'b', 0x43, 0xBE, 0xB7, 0xE8}, 1, nil, nil, api.ErrCorrupt},
		{[]byte{1, 'a', 0xE8, 0xB7, 0xBE, 0x43}, 9, nil, nil, api.ErrCorrupt},
		{[]byte{1, 'a', 0x43, 0xBE, 0xB7, 0xE9, 0}, 9, nil, nil, api.ErrCorrupt},
		{[]byte{0, 'a', 0x43, 0xBE, 0xB7, 0xE8}, 9, nil, nil, api.ErrCorrupt},
		{[]byte{0, 0, 0, 0, 1}, 0, nil, nil, api.ErrCorrupt},
	} {
		was := slices.Clone(c.b)
		if b, rest, e := crc.Open(c.b, c.most); !slices.Equal(b, c.want) || !slices.Equal(rest, c.rest) || e != c.e || !slices.Equal(c.b, was) {
			t.Error(k, b, rest, e)
		}
	}
}

// P3.3: what was a block is opened, by as many as most, whatever stands behind it.
func TestBlockIsOpened(t *testing.T) {
	for _, b := range samples() {
		block := crc.Block(b)
		for _, behind := range [][]byte{nil, {0}, {255, 128}, block[:min(9, len(block))]} {
			got, rest, e := crc.Open(slices.Concat(block, behind), len(b))
			if !slices.Equal(got, b) || !slices.Equal(rest, behind) || e != api.OK {
				t.Fatal(len(b), got, rest, e)
			}
		}
		if got, rest, e := crc.Open(block, len(b)-1); len(got) != 0 || len(rest) != 0 || e != api.ErrRange {
			t.Fatal(len(b), got, rest, e)
		}
	}
}

// P3.2: bytes that end anywhere within a block are too few.
func TestBlockThatEndsIsShort(t *testing.T) {
	for _, n := range []int{0, 1, 3, 4, 5, 126, 127, 128, 300} {
		block := crc.Block(mixed(uint64(n), n))
		for i := range block {
			if got, rest, e := crc.Open(block[:i], n); len(got) != 0 || len(rest) != 0 || e != api.ErrShort {
				t.Fatal(n, i, got, rest, e)
			}
		}
	}
}

// refused is whether Open finds the block's sum another one, where bits of it are turned: those of the pattern, from a place on.
func refused(block []byte, from int, pattern uint32) bool {
	turned := slices.Clone(block)
	for i := range 32 {
		if pattern>>i&1 == 1 {
			turned[(from+i)/8] ^= 1 << ((from + i) % 8)
		}
	}
	got, rest, e := crc.Open(turned, len(block))
	return len(got) == 0 && len(rest) == 0 && e == api.ErrCorrupt
}

// P3.3: with a bit, with two, or with all bits of a stretch turned, it isn't opened.
func TestTurnedBits(t *testing.T) {
	for _, n := range []int{0, 1, 2, 9, 130} {
		block := crc.Block(mixed(uint64(n), n))
		first, end := (len(block)-n-sumSize)*8, len(block)*8
		for from := first; from < end; from++ {
			for i := range min(32, end-from) {
				two, all := uint32(1)|1<<i, uint32(2)<<i-1
				if !refused(block, from, two) || !refused(block, from, all) {
					t.Fatal(n, from, i)
				}
			}
		}
	}
}

// P3.3: nor with any other pattern within 32 bits.
func TestTurnedPatterns(t *testing.T) {
	for _, n := range []int{0, 3, 8, 40} {
		block := crc.Block(mixed(uint64(n), n))
		first, end := (len(block)-n-sumSize)*8, len(block)*8
		patterns := []uint32{0xEDB88320, 0x04C11DB7, 0x80000001, math.MaxUint32}
		b := mixed(5, 4*500)
		for i := 0; i < len(b); i += 4 {
			patterns = append(patterns, uint32(b[i])|uint32(b[i+1])<<8|uint32(b[i+2])<<16|uint32(b[i+3])<<24|1<<(i%32))
		}
		for from := first; from <= end-32; from++ {
			for _, p := range patterns {
				if !refused(block, from, p) {
					t.Fatalf("%d %d %x", n, from, p)
				}
			}
		}
	}
}

// R3: what Block and Open tell is the caller's own: neither shares with what was handed in, nor with the other.
func TestAnswersAreTheCallersOwn(t *testing.T) {
	b := []byte("abc")
	block, again := crc.Block(b), crc.Block(b)
	b[0], block[2] = 'x', 'y'
	if again[1] != 'a' || again[2] != 'b' || b[1] != 'b' {
		t.Error("Block shares", b, again)
	}

	in := slices.Concat(crc.Block([]byte("abc")), []byte("def"))
	was := slices.Clone(in)
	got, rest, e := crc.Open(in[:len(in)-1], 3)
	if string(got) != "abc" || string(rest) != "de" || e != api.OK {
		t.Fatal(got, rest, e)
	}
	got[0], rest[0] = 'x', 'y'
	got = append(got, "0123456789"...)
	_ = append(rest, 'z')
	if !slices.Equal(in, was) || string(rest) != "ye" {
		t.Error("Open shares", in, rest)
	}
	clear(in)
	if string(got) != "xbc0123456789" || string(rest) != "ye" {
		t.Error("what was handed in is shared", got, rest)
	}
}

// R3: with no bytes, too, an answer that grows doesn't reach what was handed in.
func TestNoBytesAreTheCallersOwn(t *testing.T) {
	room := append(crc.Block(nil), 7, 8)
	was := slices.Clone(room)
	got, rest, e := crc.Open(room[:5], 0)
	_ = append(got, 9)
	_ = append(rest, 9)
	if e != api.OK || !slices.Equal(room, was) {
		t.Error(e, room)
	}
}

// wantOfOpen is P3.2's words on Open, of bytes that are cut otherwise: the block is made again and held against them.
func wantOfOpen(b []byte, most int) (got, rest []byte, e api.Errno) {
	n, size, e := leb.Get(b)
	if e != api.OK {
		return nil, nil, e
	}
	if most < 0 || n > uint64(most) {
		return nil, nil, api.ErrRange
	}
	left := uint64(len(b) - size)
	if left < n || left-n < sumSize {
		return nil, nil, api.ErrShort
	}
	whole := wantOfBlock(b[size : size+int(n)])
	if !bytes.HasPrefix(b, whole) {
		return nil, nil, api.ErrCorrupt
	}
	return b[size : size+int(n)], b[len(whole):], api.OK
}

func opened(t *testing.T, b []byte, most int) api.Errno {
	was := slices.Clone(b)
	got, rest, e := crc.Open(b, most)
	wg, wr, we := wantOfOpen(was, most)
	if !slices.Equal(got, wg) || !slices.Equal(rest, wr) || e != we || !slices.Equal(b, was) {
		t.Fatal(was, most, got, rest, e)
	}
	return e
}

// P3.2 and P2: any bytes are taken or refused, and what is taken is a block as Block lays it down.
func TestAnyBytes(t *testing.T) {
	seen := map[api.Errno]int{}
	for seed := range uint64(4000) {
		m := mixed(seed, 20)
		b := mixed(seed+1, int(m[0]%12))
		if len(b) > 0 {
			b[0] %= 8
		}
		if m[1]%3 == 0 {
			b = append(crc.Block(b), b...)
			b[int(m[2])%len(b)] ^= m[3] & 1
		}
		if len(b) > 1 && m[4]%16 == 0 {
			b[0] |= 128
			b[1] = 0
		}
		seen[opened(t, b, int(m[5]%12)-1)]++
	}
	for _, e := range []api.Errno{api.OK, api.ErrRange, api.ErrShort, api.ErrForm, api.ErrCorrupt} {
		if seen[e] < 50 {
			t.Error("too few to tell", e, seen[e])
		}
	}
}

// P1, P3.2 and P3.3: whatever the bytes, Open ends with the one answer that the document has, and a block of them is opened.
func FuzzOpen(f *testing.F) {
	for _, b := range [][]byte{nil, crc.Block(nil), crc.Block([]byte("a")), append(crc.Block([]byte("123456789")), 1, 2), {128, 0}, {2, 'a', 'b'}, {1, 'b', 0x43, 0xBE, 0xB7, 0xE8}, leb.Put(math.MaxUint64), leb.Put(math.MaxInt)} {
		for _, most := range []int{-1, 0, 1, 9, math.MaxInt} {
			f.Add(b, most)
		}
	}
	f.Fuzz(func(t *testing.T, b []byte, most int) {
		opened(t, b, most)
		block := crc.Block(b)
		if !slices.Equal(block, wantOfBlock(b)) {
			t.Fatal(b, block)
		}
		if e := opened(t, block, len(b)); e != api.OK {
			t.Fatal(b, e)
		}
	})
}
