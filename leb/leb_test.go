package leb_test

import (
	"bytes"
	"math"
	"math/big"
	"slices"
	"strings"
	"testing"

	"astragal/api"
	"astragal/leb"
)

const greatest = math.MaxUint64

// edges are the numbers beside each power of two, where the bytes become more.
func edges() []uint64 {
	l := []uint64{0, 300, 1000000, greatest}
	for i := range 64 {
		n := uint64(1) << i
		l = append(l, n-1, n, n+1)
	}
	return l
}

// mixed are numbers that look like chance, of all lengths, and are the same each time.
func mixed(seed uint64, n int) []uint64 {
	l := make([]uint64, n)
	for i := range l {
		seed = seed*6364136223846793005 + 1442695040888963407
		l[i] = (seed ^ seed>>29) >> (seed >> 58)
	}
	return l
}

func signed(l []uint64) []int64 {
	out := make([]int64, len(l))
	for i, n := range l {
		out[i] = int64(n)
	}
	return out
}

// many is so many bytes of one kind, and then others.
func many(n int, c byte, behind ...byte) []byte {
	return append(bytes.Repeat([]byte{c}, n), behind...)
}

// wantOfGet is P2.1's words, one by one, on the bytes that the number has: those that ask for another one, and the first that doesn't.
func wantOfGet(b []byte) (uint64, int, api.Errno) {
	if ten := b[:min(10, len(b))]; len(ten) == 10 && slices.Min(ten[:9]) >= 128 && ten[9] > 1 {
		return 0, 0, api.ErrForm
	}
	last := slices.IndexFunc(b, func(c byte) bool { return c < 128 })
	if last < 0 {
		return 0, 0, api.ErrShort
	}
	n := new(big.Int)
	for i := last; i >= 0; i-- {
		n.Mul(n, big.NewInt(128))
		n.Add(n, big.NewInt(int64(b[i]%128)))
	}
	if need := max(1, (n.BitLen()+6)/7); need < last+1 {
		return 0, 0, api.ErrForm
	}
	return n.Uint64(), last + 1, api.OK
}

// P2.1: Put is sevens of bits, the lowest first.
func TestPut(t *testing.T) {
	for _, c := range []struct {
		n    uint64
		want []byte
	}{
		{0, []byte{0}},
		{1, []byte{1}},
		{127, []byte{127}},
		{128, []byte{128, 1}},
		{300, []byte{172, 2}},
		{16383, []byte{255, 127}},
		{16384, []byte{128, 128, 1}},
		{1<<63 - 1, many(8, 255, 127)},
		{1 << 63, many(9, 128, 1)},
		{greatest, many(9, 255, 1)},
	} {
		if b := leb.Put(c.n); !slices.Equal(b, c.want) {
			t.Error(c.n, b)
		}
	}
}

// P2.1: of all lengths there are as few bytes as will do, each but the last with 128 more.
func TestPutIsShort(t *testing.T) {
	for _, n := range append(edges(), mixed(1, 2000)...) {
		b := leb.Put(n)
		if want := max(1, (new(big.Int).SetUint64(n).BitLen()+6)/7); len(b) != want {
			t.Fatal(n, b)
		}
		for i, c := range b {
			low := byte(n >> (7 * i) & 127)
			if i < len(b)-1 {
				low += 128
			}
			if c != low {
				t.Fatal(n, b)
			}
		}
	}
}

// P2.1: Get tells the number and its size, whatever stands behind it, or the error that is named first.
func TestGet(t *testing.T) {
	for k, c := range []struct {
		b    []byte
		n    uint64
		size int
		e    api.Errno
	}{
		{[]byte{0}, 0, 1, api.OK},
		{[]byte{127}, 127, 1, api.OK},
		{[]byte{172, 2}, 300, 2, api.OK},
		{[]byte{172, 2, 255, 255}, 300, 2, api.OK},
		{[]byte{0, 0}, 0, 1, api.OK},
		{[]byte{128, 1, 0}, 128, 2, api.OK},
		{many(8, 255, 127), 1<<63 - 1, 9, api.OK},
		{many(9, 128, 1), 1 << 63, 10, api.OK},
		{many(9, 255, 1), greatest, 10, api.OK},
		{many(9, 255, 1, 2, 3), greatest, 10, api.OK},

		{nil, 0, 0, api.ErrShort},
		{[]byte{}, 0, 0, api.ErrShort},
		{[]byte{128}, 0, 0, api.ErrShort},
		{[]byte{255, 255}, 0, 0, api.ErrShort},
		{many(9, 128), 0, 0, api.ErrShort},
		{many(9, 255), 0, 0, api.ErrShort},

		// The tenth byte above 1, whatever stands behind it.
		{many(9, 255, 2), 0, 0, api.ErrForm},
		{many(9, 128, 2), 0, 0, api.ErrForm},
		{many(9, 255, 127), 0, 0, api.ErrForm},
		{many(9, 255, 128), 0, 0, api.ErrForm},
		{many(9, 128, 129), 0, 0, api.ErrForm},
		{many(9, 128, 129, 0), 0, 0, api.ErrForm},
		{many(10, 255), 0, 0, api.ErrForm},
		{many(11, 255), 0, 0, api.ErrForm},
		{many(100, 128), 0, 0, api.ErrForm},
		{many(100, 128, 1), 0, 0, api.ErrForm},

		// It could be put in fewer.
		{[]byte{128, 0}, 0, 0, api.ErrForm},
		{[]byte{255, 0}, 0, 0, api.ErrForm},
		{[]byte{172, 130, 0}, 0, 0, api.ErrForm},
		{[]byte{128, 128, 0, 1}, 0, 0, api.ErrForm},
		{many(8, 255, 0), 0, 0, api.ErrForm},
		{many(9, 255, 0), 0, 0, api.ErrForm},
	} {
		was := slices.Clone(c.b)
		if n, size, e := leb.Get(c.b); n != c.n || size != c.size || e != c.e || !slices.Equal(c.b, was) {
			t.Error(k, n, size, e)
		}
	}
}

// P2.1: each tenth byte there is.
func TestGetTenthByte(t *testing.T) {
	for c := range 256 {
		for _, behind := range [][]byte{nil, {0}, {1}, {255}} {
			b := many(9, 129, append([]byte{byte(c)}, behind...)...)
			n, size, e := leb.Get(b)
			want := api.ErrForm
			if c == 1 {
				want = api.OK
			}
			if e != want || (e != api.OK && (n != 0 || size != 0)) {
				t.Error(b, n, size, e)
			}
		}
	}
}

// P2.1: all numbers of up to two bytes, and those of three by steps.
func TestGetOfAllShortBytes(t *testing.T) {
	check := func(b ...byte) {
		n, size, e := leb.Get(b)
		if wn, ws, we := wantOfGet(b); n != wn || size != ws || e != we {
			t.Fatal(b, n, size, e)
		}
	}
	for i := range 256 {
		check(byte(i))
		for k := range 256 {
			check(byte(i), byte(k))
			for j := range 18 {
				check(byte(i), byte(k), byte(j*15))
			}
		}
	}
}

// P2.2: Zig of small numbers is small; of all the arithmetic is modulo 2^64.
func TestZig(t *testing.T) {
	for _, c := range []struct {
		n    int64
		want uint64
	}{
		{0, 0},
		{-1, 1},
		{1, 2},
		{-2, 3},
		{2, 4},
		{-64, 127},
		{64, 128},
		{math.MaxInt64 - 1, greatest - 3},
		{math.MinInt64 + 1, greatest - 2},
		{math.MaxInt64, greatest - 1},
		{math.MinInt64, greatest},
	} {
		if z := leb.Zig(c.n); z != c.want {
			t.Error(c.n, z)
		}
		if n := leb.Zag(c.want); n != c.n {
			t.Error(c.want, n)
		}
	}
}

// P2.2: Zag is Zig's inverse, either way.
func TestZagTurnsZigRound(t *testing.T) {
	for _, n := range append(edges(), mixed(2, 2000)...) {
		if got := leb.Zig(leb.Zag(n)); got != n {
			t.Error(n, got)
		}
		for _, k := range []int64{int64(n), -int64(n), ^int64(n)} {
			z := leb.Zig(k)
			want := 2 * uint64(k)
			if k < 0 {
				want = -want - 1
			}
			if z != want || leb.Zag(z) != k {
				t.Error(k, z, leb.Zag(z))
			}
		}
	}
}

// P2.2: Ints is Put of Zig of each, in turn.
func TestInts(t *testing.T) {
	for k, c := range []struct {
		l    []int64
		want []byte
	}{
		{nil, nil},
		{[]int64{}, nil},
		{[]int64{0}, []byte{0}},
		{[]int64{-1, 2, -5}, []byte{1, 4, 9}},
		{[]int64{150, 0, -150}, []byte{172, 2, 0, 171, 2}},
		{[]int64{math.MinInt64, math.MaxInt64}, slices.Concat(many(9, 255, 1), []byte{254}, many(8, 255, 1))},
	} {
		was := slices.Clone(c.l)
		if b := leb.Ints(c.l); !slices.Equal(b, c.want) || !slices.Equal(c.l, was) {
			t.Error(k, b)
		}
	}
	for seed := range uint64(20) {
		l := signed(mixed(seed, int(seed)*3))
		var want []byte
		for _, n := range l {
			want = append(want, leb.Put(leb.Zig(n))...)
		}
		if b := leb.Ints(l); !slices.Equal(b, want) {
			t.Error(l, b)
		}
	}
}

// P2.2: ToInts tells so many numbers and what stands behind them, or the first error and nothing.
func TestToInts(t *testing.T) {
	for k, c := range []struct {
		b    []byte
		n    int
		want []int64
		rest []byte
		e    api.Errno
	}{
		{[]byte{1, 4, 9, 9}, 3, []int64{-1, 2, -5}, []byte{9}, api.OK},
		{[]byte{1, 4, 9}, 3, []int64{-1, 2, -5}, nil, api.OK},
		{[]byte{172, 2, 171, 2}, 2, []int64{150, -150}, nil, api.OK},
		{many(9, 255, 1), 1, []int64{math.MinInt64}, nil, api.OK},
		{nil, 0, nil, nil, api.OK},
		{[]byte{}, 0, nil, nil, api.OK},
		{[]byte{7, 8}, 0, nil, []byte{7, 8}, api.OK},
		// What stands behind isn't looked at.
		{[]byte{128, 0}, 0, nil, []byte{128, 0}, api.OK},
		{[]byte{2, 128, 0}, 1, []int64{1}, []byte{128, 0}, api.OK},

		{nil, 1, nil, nil, api.ErrShort},
		{[]byte{1, 4}, 3, nil, nil, api.ErrShort},
		{[]byte{1, 4, 128}, 3, nil, nil, api.ErrShort},
		{[]byte{1, 4}, math.MaxInt, nil, nil, api.ErrShort},
		{[]byte{1, 128, 0, 4}, 3, nil, nil, api.ErrForm},
		{many(9, 255, 2), 1, nil, nil, api.ErrForm},
		// The first error, of two.
		{[]byte{1, 128, 0, 128}, 3, nil, nil, api.ErrForm},
		{[]byte{1, 128, 0}, math.MaxInt, nil, nil, api.ErrForm},

		{nil, -1, nil, nil, api.ErrArg},
		{[]byte{1, 4}, -1, nil, nil, api.ErrArg},
		{[]byte{128, 0}, math.MinInt, nil, nil, api.ErrArg},
	} {
		was := slices.Clone(c.b)
		if l, rest, e := leb.ToInts(c.b, c.n); !slices.Equal(l, c.want) || !slices.Equal(rest, c.rest) || e != c.e || !slices.Equal(c.b, was) {
			t.Error(k, l, rest, e)
		}
	}
}

// P2.2: Text is how many bytes there are, not runes, and they.
func TestText(t *testing.T) {
	for _, c := range []struct {
		s    string
		want []byte
	}{
		{"", []byte{0}},
		{"hi", []byte{2, 'h', 'i'}},
		{"\x00", []byte{1, 0}},
		{"\xFF\xC0", []byte{2, 0xFF, 0xC0}},
		{"é", []byte{2, 0xC3, 0xA9}},
		{strings.Repeat("a", 127), append([]byte{127}, many(127, 'a')...)},
		{strings.Repeat("b", 300), append([]byte{172, 2}, many(300, 'b')...)},
	} {
		if b := leb.Text(c.s); !slices.Equal(b, c.want) {
			t.Error(c.s, b)
		}
	}
}

// P2.2: ToText tells the text and what stands behind it, or the error that is named first.
func TestToText(t *testing.T) {
	for k, c := range []struct {
		b    []byte
		most int
		want string
		rest []byte
		e    api.Errno
	}{
		{[]byte{2, 'a', 'b', 'c'}, 9, "ab", []byte{'c'}, api.OK},
		{[]byte{2, 'a', 'b'}, 2, "ab", nil, api.OK},
		{[]byte{2, 'a', 'b'}, math.MaxInt, "ab", nil, api.OK},
		{[]byte{0}, 0, "", nil, api.OK},
		{[]byte{0, 1, 2}, 0, "", []byte{1, 2}, api.OK},
		{[]byte{1, 0xFF, 128}, 1, "\xFF", []byte{128}, api.OK},
		{append([]byte{172, 2}, many(301, 'x')...), 300, strings.Repeat("x", 300), []byte{'x'}, api.OK},

		// The number's own errors come ahead of all others.
		{nil, 9, "", nil, api.ErrShort},
		{nil, -1, "", nil, api.ErrShort},
		{[]byte{128}, -1, "", nil, api.ErrShort},
		{[]byte{128, 0}, 9, "", nil, api.ErrForm},
		{[]byte{130, 0, 'a'}, -1, "", nil, api.ErrForm},
		{many(9, 255, 2), 0, "", nil, api.ErrForm},

		{[]byte{2, 'a', 'b'}, 1, "", nil, api.ErrRange},
		{[]byte{2, 'a', 'b'}, 0, "", nil, api.ErrRange},
		{[]byte{0}, -1, "", nil, api.ErrRange},
		{[]byte{0}, math.MinInt, "", nil, api.ErrRange},
		{[]byte{2, 'a', 'b'}, -1, "", nil, api.ErrRange},
		{many(9, 255, 1), 9, "", nil, api.ErrRange},
		// A number that no int has room for is above any.
		{many(9, 128, 1), math.MaxInt, "", nil, api.ErrRange},
		{many(9, 255, 1), math.MaxInt, "", nil, api.ErrRange},
		{many(9, 255, 1), -1, "", nil, api.ErrRange},
		// Above most, and too few bytes: the first that is named.
		{[]byte{3, 'a', 'b'}, 2, "", nil, api.ErrRange},

		{[]byte{3, 'a', 'b'}, 3, "", nil, api.ErrShort},
		{[]byte{3, 'a', 'b'}, 9, "", nil, api.ErrShort},
		{[]byte{1}, 1, "", nil, api.ErrShort},
		{many(8, 255, 127, 'a'), math.MaxInt, "", nil, api.ErrShort},
	} {
		was := slices.Clone(c.b)
		if s, rest, e := leb.ToText(c.b, c.most); s != c.want || !slices.Equal(rest, c.rest) || e != c.e || !slices.Equal(c.b, was) {
			t.Error(k, s, rest, e)
		}
	}
}

// R3: the bytes behind are the caller's own, with and without something ahead of them.
func TestBytesBehindAreTheCallersOwn(t *testing.T) {
	for name, behind := range map[string]func(b []byte) []byte{
		"ToInts":    func(b []byte) []byte { _, rest, _ := leb.ToInts(b, 1); return rest },
		"ToInts, 0": func(b []byte) []byte { _, rest, _ := leb.ToInts(b, 0); return rest },
		"ToText":    func(b []byte) []byte { _, rest, _ := leb.ToText(b, 1); return rest },
	} {
		b := []byte{1, 2, 3, 4}
		rest, again := behind(b[:3]), behind(b[:3])
		if len(rest) == 0 || !slices.Equal(rest, again) {
			t.Fatal(name, rest, again)
		}
		rest[len(rest)-1] = 99
		_ = append(rest, 98)
		if !slices.Equal(b, []byte{1, 2, 3, 4}) || again[len(again)-1] != 3 {
			t.Error(name, "the answer is shared", b, again)
		}
		b[2] = 97
		if again[len(again)-1] != 3 {
			t.Error(name, "what was handed in is shared", again)
		}
	}
}

// R3: with nothing behind, too, an answer that grows doesn't reach what was handed in.
func TestNothingBehindIsTheCallersOwn(t *testing.T) {
	b := []byte{1, 2, 3}
	_, rest, e := leb.ToInts(b[:1], 1)
	_, behind, f := leb.ToText(b[:2], 1)
	_ = append(rest, 99)
	_ = append(behind, 99)
	if e != api.OK || f != api.OK || !slices.Equal(b, []byte{1, 2, 3}) {
		t.Error(e, f, b)
	}
}

// R3 and R4: texts and bytes that were told stay as they are.
func TestAnswersStay(t *testing.T) {
	b := []byte{2, 'a', 'b'}
	s, _, _ := leb.ToText(b, 2)
	b[1] = 'x'
	if s != "ab" {
		t.Error(s)
	}
	put, again := leb.Put(5), leb.Put(5)
	put[0] = 9
	if again[0] != 5 || leb.Put(5)[0] != 5 {
		t.Error("two answers share", again)
	}
}

// P2.3: what was put is got, and its bytes are all that are taken.
func TestPutIsGot(t *testing.T) {
	for _, n := range append(edges(), mixed(3, 2000)...) {
		b := leb.Put(n)
		for _, behind := range [][]byte{nil, {0}, {255, 255}} {
			if got, size, e := leb.Get(slices.Concat(b, behind)); got != n || size != len(b) || e != api.OK {
				t.Fatal(n, got, size, e)
			}
		}
		for i := range b {
			if got, size, e := leb.Get(b[:i]); got != 0 || size != 0 || e != api.ErrShort {
				t.Fatal(n, i, got, size, e)
			}
		}
	}
}

// P2.3: numbers of either sign, and texts, one behind the other, are told as they were.
func TestIntsAndTextsAreGot(t *testing.T) {
	for seed := range uint64(40) {
		l := signed(mixed(seed, int(seed)*5))
		s := strings.Repeat("ab\x80", int(seed)*int(seed))
		b := slices.Concat(leb.Ints(l), leb.Text(s), []byte{1, 2})
		got, rest, e := leb.ToInts(b, len(l))
		if !slices.Equal(got, l) || e != api.OK {
			t.Fatal(seed, got, e)
		}
		text, rest, e := leb.ToText(rest, len(s))
		if text != s || !slices.Equal(rest, []byte{1, 2}) || e != api.OK {
			t.Fatal(seed, text, rest, e)
		}
		if text, rest, e := leb.ToText(leb.Text(s), len(s)-1); text != "" || len(rest) != 0 || e != api.ErrRange {
			t.Fatal(seed, text, rest, e)
		}
	}
}

// P2.3: bytes that are got are put as the very bytes, and any bytes are taken or refused.
func TestGotIsPut(t *testing.T) {
	taken := 0
	for seed := range uint64(3000) {
		b := make([]byte, seed%14)
		for i, n := range mixed(seed, len(b)) {
			b[i] = byte(n)
			// Long numbers, too, which chance seldom makes.
			if seed%3 == 0 && i < 9 {
				b[i] |= 128
			}
		}
		gotNumber(t, b)
		for n := range 5 {
			gotInts(t, b, n)
			gotText(t, b, n*3-1)
		}
		if _, _, e := leb.Get(b); e == api.OK {
			taken++
		}
	}
	if taken < 1000 {
		t.Error("too few were taken to tell", taken)
	}
}

// P2.3 and P1: whatever the bytes, each call ends with the one answer that the document has, and what it took is put as the very bytes.
func FuzzGot(f *testing.F) {
	for _, b := range [][]byte{nil, {172, 2, 7}, {2, 'a', 'b', 'c'}, {128, 0}, many(9, 255, 1), many(9, 128, 2), many(20, 128)} {
		for _, n := range []int{-1, 0, 1, 3, math.MaxInt} {
			f.Add(b, n)
		}
	}
	f.Fuzz(func(t *testing.T, b []byte, n int) {
		was := slices.Clone(b)
		gotNumber(t, b)
		gotInts(t, b, n)
		gotText(t, b, n)
		if !slices.Equal(b, was) {
			t.Fatal("what was handed in has changed", b, was)
		}
	})
}

func gotNumber(t *testing.T, b []byte) {
	n, size, e := leb.Get(b)
	if wn, ws, we := wantOfGet(b); n != wn || size != ws || e != we {
		t.Fatal(b, n, size, e)
	}
	if e == api.OK && !slices.Equal(leb.Put(n), b[:size]) {
		t.Fatal(b, n)
	}
}

func gotInts(t *testing.T, b []byte, n int) {
	l, rest, e := leb.ToInts(b, n)
	if e != wantOfToInts(b, n) || (e != api.OK && (len(l) != 0 || len(rest) != 0)) {
		t.Fatal(b, n, l, rest, e)
	}
	if e == api.OK && (len(l) != n || !slices.Equal(slices.Concat(leb.Ints(l), rest), b)) {
		t.Fatal(b, n, l, rest)
	}
}

func wantOfToInts(b []byte, n int) api.Errno {
	if n < 0 {
		return api.ErrArg
	}
	for range n {
		_, size, e := wantOfGet(b)
		if e != api.OK {
			return e
		}
		b = b[size:]
	}
	return api.OK
}

func gotText(t *testing.T, b []byte, most int) {
	s, rest, e := leb.ToText(b, most)
	if e != wantOfToText(b, most) || (e != api.OK && (s != "" || len(rest) != 0)) {
		t.Fatal(b, most, s, rest, e)
	}
	if e == api.OK && !slices.Equal(slices.Concat(leb.Text(s), rest), b) {
		t.Fatal(b, most, s, rest)
	}
}

func wantOfToText(b []byte, most int) api.Errno {
	n, size, e := wantOfGet(b)
	if e != api.OK {
		return e
	}
	long := new(big.Int).SetUint64(n)
	if long.Cmp(big.NewInt(int64(most))) > 0 {
		return api.ErrRange
	}
	if long.Cmp(big.NewInt(int64(len(b)-size))) > 0 {
		return api.ErrShort
	}
	return api.OK
}
