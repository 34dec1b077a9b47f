package plain_test

import (
	"bytes"
	"encoding/binary"
	"math"
	"slices"
	"strings"
	"testing"

	"astragal/api"
	"astragal/plain"
	"astragal/val"
)

const theNaN = 0x7FF8000000000000

func num(n int64) api.Val { return api.Val{Kind: api.Int, I: n} }

func ofBits(bits uint64) api.Val { return api.Val{Kind: api.Float, I: int64(bits)} }

func float(f float64) api.Val { return ofBits(math.Float64bits(f)) }

func text(s string) api.Val { return api.Val{Kind: api.Text, S: s} }

// kinds are those that a column may have.
func kinds() []int {
	return []int{api.Int, api.Float, api.Text}
}

// noKinds are numbers below 1 and above 3.
func noKinds() []int {
	return []int{api.Null, -1, -2, -3, -256, -1 << 32, math.MinInt, 4, 5, 7, 255, 256, 257, 258, 259, 1<<32 + 1, math.MaxInt}
}

// mixed are numbers that look like chance, and are the same each time.
func mixed(seed uint64, n int) []uint64 {
	l := make([]uint64, n)
	for i := range l {
		seed = seed*6364136223846793005 + 1442695040888963407
		high := seed >> 32 << 32
		seed = seed*6364136223846793005 + 1442695040888963407
		l[i] = high | seed>>32
	}
	return l
}

// values are such of a kind that may be, with their edges.
func values(kind int) []api.Val {
	var l []api.Val
	switch kind {
	case api.Int:
		for _, n := range []int64{0, -1, 1, 2, 63, 64, -64, -65, 127, 128, 300, 8191, 8192, 1 << 31, -1 << 31, 1 << 53, math.MinInt64, math.MinInt64 + 1, math.MaxInt64 - 1, math.MaxInt64} {
			l = append(l, num(n))
		}
		for i, n := range mixed(1, 64) {
			l = append(l, num(int64(n)>>i))
		}
	case api.Float:
		for _, f := range []float64{0, math.Copysign(0, -1), 1, -1, 2.5, -2.5, math.SmallestNonzeroFloat64, -math.SmallestNonzeroFloat64, math.MaxFloat64, -math.MaxFloat64, math.Inf(1), math.Inf(-1)} {
			l = append(l, float(f))
		}
		l = append(l, ofBits(theNaN))
		for _, n := range mixed(2, 64) {
			l = append(l, val.Clean(ofBits(n)))
		}
	case api.Text:
		for _, s := range []string{"", "a", "\x00", "\x00\x00", "\xFF", "\x80\x80", "ab", "é", "two words"} {
			l = append(l, text(s))
		}
		for _, size := range []int{126, 127, 128, 129, 255, 256, 1000, api.MaxText - 1, api.MaxText} {
			l = append(l, text(strings.Repeat("x", size)), text(strings.Repeat("\xFF", size)))
		}
	}
	return l
}

// wrong are values of a kind that may not be.
func wrong(kind int) []api.Val {
	long := strings.Repeat("x", api.MaxText+1)
	switch kind {
	case api.Int:
		return []api.Val{{Kind: kind, S: "x"}, {Kind: kind, I: 5, S: "\x00"}, {Kind: kind, I: -1, S: long}}
	case api.Float:
		return []api.Val{{Kind: kind, S: "x"}, {Kind: kind, I: theNaN, S: "x"}, ofBits(theNaN | 1), ofBits(theNaN | 1<<63), ofBits(0x7FF0000000000001), ofBits(math.MaxUint64)}
	}
	return []api.Val{{Kind: kind, I: 1}, {Kind: kind, I: -1, S: "a"}, {Kind: kind, I: math.MinInt64, S: "a"}, text(long), {Kind: kind, I: 1, S: long}}
}

// others are values of any other kind than that, such that may be, and such that may not.
func others(kind int) []api.Val {
	l := []api.Val{{}, {I: 1}, {S: "x"}}
	for _, k := range kinds() {
		if k != kind {
			l = append(l, values(k)[:3]...)
			l = append(l, wrong(k)...)
		}
	}
	for _, k := range noKinds() {
		l = append(l, api.Val{Kind: k}, api.Val{Kind: k, I: 5}, api.Val{Kind: k, S: "x"})
	}
	return l
}

// some are n values of a kind that may be.
func some(n, kind int) []api.Val {
	all := values(kind)
	l := make([]api.Val, n)
	for i := range l {
		l[i] = all[(i*7+n)%len(all)]
	}
	return l
}

// columns are lists of values of a kind, of many lengths, up to the greatest.
func columns(kind int) [][]api.Val {
	l := [][]api.Val{nil, {}, values(kind)}
	for _, v := range values(kind) {
		l = append(l, []api.Val{v}, []api.Val{v, v}, []api.Val{values(kind)[0], v, values(kind)[1]})
	}
	for n := range 40 {
		l = append(l, some(n, kind))
	}
	return append(l, some(api.MaxRows-1, kind), some(api.MaxRows, kind))
}

// wantOfCheck is P7.1's words, one by one.
func wantOfCheck(l []api.Val, kind int) api.Errno {
	if kind < 1 || kind > 3 {
		return api.ErrArg
	}
	if len(l) > 4096 {
		return api.ErrRange
	}
	for _, v := range l {
		if v.Kind != kind {
			return api.ErrKind
		}
	}
	for _, v := range l {
		if !val.May(v) {
			return api.ErrArg
		}
	}
	return api.OK
}

// laid are the bytes of values that may be, by the words of chapters 2, 4 and 5.
func laid(l []api.Val) []byte {
	var b []byte
	for _, v := range l {
		switch v.Kind {
		case api.Int:
			b = binary.AppendVarint(b, v.I)
		case api.Float:
			key := uint64(v.I) ^ 1<<63
			if v.I < 0 {
				key = ^uint64(v.I)
			}
			b = binary.BigEndian.AppendUint64(b, key)
		case api.Text:
			b = append(binary.AppendUvarint(b, uint64(len(v.S))), v.S...)
		}
	}
	return b
}

// wantOf is P7.2's words on what is read: val.Of of all that is left, each time.
func wantOf(b []byte, n, kind int) ([]api.Val, api.Errno) {
	if kind < 1 || kind > 3 {
		return nil, api.ErrArg
	}
	if n < 0 || n > 4096 {
		return nil, api.ErrRange
	}
	var l []api.Val
	for range n {
		v, rest, e := val.Of(b, kind)
		if e != api.OK {
			return nil, e
		}
		l, b = append(l, v), rest
	}
	if len(b) > 0 {
		return nil, api.ErrForm
	}
	return l, api.OK
}

// checkCheck holds Check and Bytes, which has its error, against an error that is known.
func checkCheck(t *testing.T, l []api.Val, kind int, want api.Errno) {
	t.Helper()
	was := slices.Clone(l)
	if e := plain.Check(l, kind); e != want {
		t.Error("Check", len(l), kind, e, want)
	}
	b, e := plain.Bytes(l, kind)
	if e != want || want != api.OK && len(b) != 0 {
		t.Error("Bytes", len(l), kind, len(b), e, want)
	}
	if !slices.Equal(l, was) {
		t.Error("what was handed in has changed", kind)
	}
}

// checkOf holds what is read against the chapter's words, and tells whether it was taken.
func checkOf(t *testing.T, b []byte, n, kind int) bool {
	t.Helper()
	was := slices.Clone(b)
	l, e := plain.Of(b, n, kind)
	want, wantE := wantOf(b, n, kind)
	if !slices.Equal(l, want) || e != wantE || !slices.Equal(b, was) {
		t.Fatal(b, n, kind, len(l), e, wantE)
	}
	if e != api.OK {
		return false
	}
	if again, e := plain.Bytes(l, kind); len(l) != n || !slices.Equal(again, b) || e != api.OK {
		t.Fatal(b, n, kind, len(l), again, e)
	}
	return true
}

// P7.1: values that may be a column's: none, each kind, each value, and 4096 of them.
func TestCheck(t *testing.T) {
	for _, kind := range kinds() {
		for _, l := range columns(kind) {
			checkCheck(t, l, kind, api.OK)
		}
	}
}

// P7.1: a kind below 1 or above 3 is refused ahead of all else, also one that all of the values have.
func TestCheckRefusesKinds(t *testing.T) {
	for _, kind := range noKinds() {
		for _, l := range [][]api.Val{
			nil, {}, {{Kind: kind}}, {{Kind: kind}, {Kind: kind}}, {num(5)}, {text("a")}, {{Kind: api.Int, S: "x"}},
			some(api.MaxRows+1, api.Int), make([]api.Val, api.MaxRows+1), slices.Repeat([]api.Val{{Kind: kind}}, api.MaxRows+1),
		} {
			checkCheck(t, l, kind, api.ErrArg)
		}
	}
}

// P7.1: more than 4096 are refused, also where others of the errors apply.
func TestCheckRefusesMoreThanRows(t *testing.T) {
	for _, kind := range kinds() {
		for _, size := range []int{api.MaxRows + 1, api.MaxRows + 2, 2 * api.MaxRows, 70000} {
			l := some(size, kind)
			checkCheck(t, l, kind, api.ErrRange)
			l[0] = wrong(kind)[0]
			checkCheck(t, l, kind, api.ErrRange)
			l[1] = api.Val{}
			checkCheck(t, l, kind, api.ErrRange)
			checkCheck(t, make([]api.Val, size), kind, api.ErrRange)
		}
	}
}

// P7.1: one of another kind, Null among them, at each place.
func TestCheckRefusesOtherKinds(t *testing.T) {
	for _, kind := range kinds() {
		for _, v := range others(kind) {
			for size := 1; size < 6; size++ {
				for i := range size {
					l := some(size, kind)
					l[i] = v
					checkCheck(t, l, kind, api.ErrKind)
				}
			}
		}
		for _, other := range append(kinds(), noKinds()...) {
			if other != kind {
				checkCheck(t, slices.Repeat([]api.Val{{Kind: other}}, 3), kind, api.ErrKind)
			}
		}
		l := some(api.MaxRows, kind)
		l[api.MaxRows-1] = api.Val{}
		checkCheck(t, l, kind, api.ErrKind)
	}
}

// P7.1: one that may not be, at each place.
func TestCheckRefusesWhatMayNotBe(t *testing.T) {
	for _, kind := range kinds() {
		for _, v := range wrong(kind) {
			for size := 1; size < 6; size++ {
				for i := range size {
					l := some(size, kind)
					l[i] = v
					checkCheck(t, l, kind, api.ErrArg)
				}
			}
		}
		l := some(api.MaxRows, kind)
		l[api.MaxRows-1] = wrong(kind)[0]
		checkCheck(t, l, kind, api.ErrArg)
	}
}

// P7.1: another kind is told ahead of one that may not be, whichever of them stands first.
func TestCheckOrdersErrors(t *testing.T) {
	for _, kind := range kinds() {
		good := values(kind)[0]
		for _, other := range others(kind) {
			for _, bad := range wrong(kind) {
				for _, l := range [][]api.Val{{other, bad}, {bad, other}, {good, bad, good, other}, {good, other, good, bad, good}, {bad, bad, other}, {bad, other, bad}} {
					checkCheck(t, l, kind, api.ErrKind)
				}
			}
		}
	}
}

// P7.1: of all these together, as the words of it say.
func TestCheckOfAll(t *testing.T) {
	for _, kind := range append(kinds(), noKinds()...) {
		for _, of := range kinds() {
			for _, l := range slices.Concat(columns(of)[:10], [][]api.Val{wrong(of), others(of), some(api.MaxRows+1, of)}) {
				checkCheck(t, l, kind, wantOfCheck(l, kind))
			}
		}
	}
}

// P7.2: the example, and other bytes that are known, laid down and read.
func TestBytes(t *testing.T) {
	for k, c := range []struct {
		l    []api.Val
		kind int
		want []byte
	}{
		{[]api.Val{num(-1), num(2)}, api.Int, []byte{1, 4}},
		{[]api.Val{num(2), num(-1)}, api.Int, []byte{4, 1}},
		{[]api.Val{num(-1), num(2), num(300)}, api.Int, []byte{1, 4, 216, 4}},
		{[]api.Val{num(0), num(0), num(0)}, api.Int, []byte{0, 0, 0}},
		{[]api.Val{num(math.MinInt64), num(0)}, api.Int, []byte{255, 255, 255, 255, 255, 255, 255, 255, 255, 1, 0}},
		{nil, api.Int, nil},
		{[]api.Val{}, api.Int, nil},
		{nil, api.Float, nil},
		{nil, api.Text, nil},
		{[]api.Val{float(0)}, api.Float, []byte{0x80, 0, 0, 0, 0, 0, 0, 0}},
		{[]api.Val{float(1), float(-1)}, api.Float, []byte{0xBF, 0xF0, 0, 0, 0, 0, 0, 0, 0x40, 0x0F, 255, 255, 255, 255, 255, 255}},
		{[]api.Val{text("")}, api.Text, []byte{0}},
		{[]api.Val{text("ab"), text(""), text("c")}, api.Text, []byte{2, 'a', 'b', 0, 1, 'c'}},
		{[]api.Val{text(strings.Repeat("x", 1024)), text("y")}, api.Text, slices.Concat([]byte{128, 8}, bytes.Repeat([]byte{'x'}, 1024), []byte{1, 'y'})},
	} {
		if b, e := plain.Bytes(c.l, c.kind); !slices.Equal(b, c.want) || e != api.OK {
			t.Error(k, b, e)
		}
		if l, e := plain.Of(c.want, len(c.l), c.kind); !slices.Equal(l, c.l) || e != api.OK {
			t.Error(k, l, e)
		}
	}
}

// P7.2: of all columns, val.Bytes of each value in turn, and as chapters 2, 4 and 5 spell them.
func TestBytesOfAll(t *testing.T) {
	for _, kind := range kinds() {
		for k, l := range columns(kind) {
			var want []byte
			for _, v := range l {
				b, e := val.Bytes(v)
				if e != api.OK {
					t.Fatal(kind, k, v, e)
				}
				want = append(want, b...)
			}
			if b, e := plain.Bytes(l, kind); !slices.Equal(b, want) || !slices.Equal(b, laid(l)) || e != api.OK {
				t.Fatal(kind, k, len(b), e)
			}
		}
	}
}

// P7.2: what is read, and the first error that is found, with zero values.
func TestOf(t *testing.T) {
	nine := bytes.Repeat([]byte{255}, 9)
	key := []byte{0x80, 0, 0, 0, 0, 0, 0, 0} // of 0
	for k, c := range []struct {
		b       []byte
		n, kind int
		want    []api.Val
		e       api.Errno
	}{
		{[]byte{1, 4}, 2, api.Int, []api.Val{num(-1), num(2)}, api.OK},
		{[]byte{1, 'a', 0}, 2, api.Text, []api.Val{text("a"), text("")}, api.OK},
		{slices.Concat(key, key), 2, api.Float, []api.Val{float(0), float(0)}, api.OK},
		{nil, 0, api.Int, nil, api.OK},
		{[]byte{}, 0, api.Float, nil, api.OK},
		{nil, 0, api.Text, nil, api.OK},

		{nil, 1, api.Int, nil, api.ErrShort},
		{nil, 1, api.Float, nil, api.ErrShort},
		{nil, 1, api.Text, nil, api.ErrShort},
		{nil, 4096, api.Int, nil, api.ErrShort},
		{[]byte{1, 4}, 3, api.Int, nil, api.ErrShort},
		{[]byte{1, 4, 128}, 3, api.Int, nil, api.ErrShort},
		{key[:7], 1, api.Float, nil, api.ErrShort},
		{[]byte{2, 'a'}, 1, api.Text, nil, api.ErrShort},
		{[]byte{128, 8, 'a'}, 1, api.Text, nil, api.ErrShort}, // 1024 bytes should come

		{[]byte{1, 4}, 1, api.Int, nil, api.ErrForm},
		{[]byte{1, 4}, 0, api.Int, nil, api.ErrForm},
		{[]byte{0}, 0, api.Float, nil, api.ErrForm},
		{[]byte{0}, 0, api.Text, nil, api.ErrForm},
		{append(slices.Clone(key), 0), 1, api.Float, nil, api.ErrForm},
		{[]byte{0, 0}, 1, api.Text, nil, api.ErrForm},
		{[]byte{128, 0}, 1, api.Int, nil, api.ErrForm}, // could be put in fewer
		{append(slices.Clone(nine), 2), 1, api.Int, nil, api.ErrForm},
		{append(slices.Clone(nine), 2), 1, api.Text, nil, api.ErrForm},
		{bytes.Repeat([]byte{255}, 8), 1, api.Float, nil, api.ErrForm}, // no clean bits have that key
		{make([]byte, 8), 1, api.Float, nil, api.ErrForm},

		{append([]byte{129, 8}, make([]byte, 1025)...), 1, api.Text, nil, api.ErrRange}, // a text of 1025
		{[]byte{129, 8}, 1, api.Text, nil, api.ErrRange},
		{append(slices.Clone(nine), 1), 1, api.Text, nil, api.ErrRange},

		{[]byte{1, 4, 128, 0}, 4, api.Int, nil, api.ErrForm}, // the third one's error is ahead of the fourth's
		{[]byte{0, 129, 8, 0}, 3, api.Text, nil, api.ErrRange},
		{[]byte{128, 0, 1}, 1, api.Int, nil, api.ErrForm},
		{[]byte{129, 8, 0}, 1, api.Text, nil, api.ErrRange}, // and of what stands behind it

		{[]byte{1, 4}, -1, api.Int, nil, api.ErrRange},
		{nil, -1, api.Text, nil, api.ErrRange},
		{nil, 4097, api.Int, nil, api.ErrRange},
		{make([]byte, 4097), 4097, api.Int, nil, api.ErrRange},
		{make([]byte, 4097), 4097, api.Text, nil, api.ErrRange},
		{[]byte{128, 0}, 4097, api.Int, nil, api.ErrRange},
	} {
		was := slices.Clone(c.b)
		if l, e := plain.Of(c.b, c.n, c.kind); !slices.Equal(l, c.want) || e != c.e || !slices.Equal(c.b, was) {
			t.Error(k, l, e)
		}
	}
}

// P7.2: a kind that is none of the three is refused ahead of all else, an n that may not be ahead of what the bytes are.
func TestOfOrdersErrors(t *testing.T) {
	many := []int{0, 1, 2, api.MaxRows, -1, -4096, math.MinInt, api.MaxRows + 1, 1 << 32, 1<<32 + 1, math.MaxInt}
	for _, b := range [][]byte{nil, {}, {0}, {1, 4}, {128, 0}, {128}, make([]byte, api.MaxRows+1)} {
		for _, n := range many {
			for _, kind := range noKinds() {
				if l, e := plain.Of(b, n, kind); len(l) != 0 || e != api.ErrArg {
					t.Error(b, n, kind, len(l), e)
				}
			}
			if n >= 0 && n <= api.MaxRows {
				continue
			}
			for _, kind := range kinds() {
				if l, e := plain.Of(b, n, kind); len(l) != 0 || e != api.ErrRange {
					t.Error(b, n, kind, len(l), e)
				}
			}
		}
	}
}

// P7.3: what was laid down is read, of one value more it ends too early, of one less something stands behind it.
func TestBytesAreRead(t *testing.T) {
	for _, kind := range kinds() {
		for k, l := range columns(kind) {
			b, e := plain.Bytes(l, kind)
			if e != api.OK {
				t.Fatal(kind, k, e)
			}
			if got, e := plain.Of(b, len(l), kind); !slices.Equal(got, l) || e != api.OK {
				t.Fatal(kind, k, len(got), e)
			}
			if len(l) < api.MaxRows {
				if got, e := plain.Of(b, len(l)+1, kind); len(got) != 0 || e != api.ErrShort {
					t.Fatal(kind, k, len(got), e)
				}
			}
			for fewer := range min(len(l), 50) {
				if got, e := plain.Of(b, fewer, kind); len(got) != 0 || e != api.ErrForm {
					t.Fatal(kind, k, fewer, len(got), e)
				}
			}
			for _, behind := range []byte{0, 1, 128, 255} {
				if got, e := plain.Of(append(slices.Clone(b), behind), len(l), kind); len(got) != 0 || e != api.ErrForm {
					t.Fatal(kind, k, behind, len(got), e)
				}
			}
		}
	}
}

// P7.2: a column's bytes, cut anywhere ahead of their end, end too early.
func TestOfWhatIsCut(t *testing.T) {
	for _, kind := range kinds() {
		for k, l := range columns(kind) {
			b := laid(l)
			step := 1
			if len(l) > 4 {
				step += len(b) / 50
			}
			for at := 0; at < len(b); at += step {
				if got, e := plain.Of(b[:at:at], len(l), kind); len(got) != 0 || e != api.ErrShort {
					t.Fatal(kind, k, at, len(got), e)
				}
				// What stands behind the cut is not read, though there is room for it.
				if got, e := plain.Of(b[:at], len(l), kind); len(got) != 0 || e != api.ErrShort {
					t.Fatal(kind, k, at, len(got), e)
				}
			}
			if len(b) > 0 {
				if got, e := plain.Of(b[:len(b)-1], len(l), kind); len(got) != 0 || e != api.ErrShort {
					t.Fatal(kind, k, len(got), e)
				}
			}
		}
	}
}

// P7.2: what comes behind many bytes, and what many bytes come behind, is read as by val.Of of all that is left.
func TestOfLongBytes(t *testing.T) {
	faults := [][]byte{{}, {0}, {128}, {128, 0}, {129, 8}, {128, 8}, {255, 7}, {127}, bytes.Repeat([]byte{255}, 10), append(bytes.Repeat([]byte{255}, 9), 1), bytes.Repeat([]byte{128}, 20)}
	for _, kind := range kinds() {
		for _, size := range []int{0, 1, 5, 40} {
			ahead := some(size, kind)
			for _, fault := range faults {
				for _, behind := range []int{0, 1, 1022, 1023, 1024, 1025, 1033, 1034, 1035, 5000} {
					b := slices.Concat(laid(ahead), fault, make([]byte, behind))
					for _, n := range []int{size - 1, size, size + 1, size + 2, size + behind, api.MaxRows} {
						checkOf(t, b, n, kind)
					}
				}
			}
		}
	}
}

// P2 and P7.3: any bytes are taken or refused; what is taken is laid down as the very bytes.
func TestOfAnyBytes(t *testing.T) {
	for _, kind := range kinds() {
		taken := 0
		for size := range 20 {
			for seed := range uint64(200) {
				b := make([]byte, size)
				for i, n := range mixed(seed*100+uint64(size), size) {
					// Small bytes more often, so that there are numbers and texts that end.
					b[i] = byte(n >> 56 >> (seed % 7))
				}
				for n := -1; n < size+2; n++ {
					if checkOf(t, b, n, kind) {
						taken++
					}
				}
			}
		}
		if taken < 100 {
			t.Error("too few were taken to tell", kind, taken)
		}
	}
}

// P7.2: of one and of two bytes, all of them.
func TestOfFewBytes(t *testing.T) {
	for _, kind := range kinds() {
		for first := range 256 {
			for n := range 3 {
				checkOf(t, []byte{byte(first)}, n, kind)
			}
			for second := range 256 {
				for n := range 4 {
					checkOf(t, []byte{byte(first), byte(second)}, n, kind)
				}
			}
		}
	}
}

// P7.2: keys of Floats that no clean bits have, and those beside them.
func TestOfKeys(t *testing.T) {
	for _, v := range slices.Concat(values(api.Float), wrong(api.Float)) {
		for step := uint64(0); step < 3; step++ {
			for _, bits := range []uint64{uint64(v.I) + step, uint64(v.I) - step} {
				b := laid([]api.Val{float(1), ofBits(bits)})
				l, e := plain.Of(b, 2, api.Float)
				if val.May(ofBits(bits)) != (e == api.OK) || e != api.OK && (e != api.ErrForm || len(l) != 0) {
					t.Error(bits, l, e)
				}
			}
		}
	}
}

// P1 and P7.3: as many as there may be, of the greatest size.
func TestTheMost(t *testing.T) {
	for _, v := range []api.Val{num(math.MinInt64), ofBits(theNaN), text(strings.Repeat("\xFF", api.MaxText))} {
		l := slices.Repeat([]api.Val{v}, api.MaxRows)
		b, e := plain.Bytes(l, v.Kind)
		if len(b) != api.MaxRows*len(laid(l[:1])) || e != api.OK {
			t.Error(v.Kind, len(b), e)
		}
		if got, e := plain.Of(b, api.MaxRows, v.Kind); !slices.Equal(got, l) || e != api.OK {
			t.Error(v.Kind, len(got), e)
		}
	}
}

// R3: what Bytes tells is the caller's own, and what was handed in stays.
func TestBytesAreTheCallersOwn(t *testing.T) {
	for _, kind := range kinds() {
		for k, l := range columns(kind) {
			was := slices.Clone(l)
			b, _ := plain.Bytes(l, kind)
			again, _ := plain.Bytes(l, kind)
			for i := range b {
				b[i]++
			}
			_ = append(b, 1)
			if !slices.Equal(l, was) || !slices.Equal(again, laid(was)) {
				t.Fatal(kind, k, "an answer is shared")
			}
			for i := range l {
				l[i] = api.Val{}
			}
			if !slices.Equal(again, laid(was)) {
				t.Fatal(kind, k, "an answer has changed")
			}
		}
	}
}

// R3: what Of tells is the caller's own: neither the bytes nor another answer change it, nor it them.
func TestOfIsTheCallersOwn(t *testing.T) {
	for _, kind := range kinds() {
		for k, want := range columns(kind) {
			b := append(laid(want), 7) // with room behind it, which an answer must not reach
			was := slices.Clone(b)
			got, _ := plain.Of(b[:len(b)-1], len(want), kind)
			again, _ := plain.Of(b[:len(b)-1], len(want), kind)
			for i := range got {
				got[i] = text("changed")
			}
			_ = append(got, text("more"))
			if !slices.Equal(b, was) {
				t.Fatal(kind, k, "what was handed in has changed")
			}
			for i := range b {
				b[i]++
			}
			if !slices.Equal(again, want) {
				t.Fatal(kind, k, "an answer has changed")
			}
		}
	}
}

// P1 and P7.1 to P7.3: any bytes, and any values, of any kind and number.
func FuzzPlain(f *testing.F) {
	f.Add([]byte{1, 4}, 2, 1, int64(-1), "")
	f.Add([]byte{2, 'a', 'b', 0}, 2, 3, int64(0), "ab")
	f.Add([]byte{0x80, 0, 0, 0, 0, 0, 0, 0}, 1, 2, int64(1)<<62, "")
	f.Add([]byte{129, 8}, 4097, 4, int64(1), "x")
	f.Add([]byte{128, 0}, -1, 0, int64(0), "")
	f.Fuzz(func(t *testing.T, b []byte, n, kind int, i int64, s string) {
		checkOf(t, b, n, kind)
		checkOf(t, b, len(b), kind)
		for _, k := range kinds() {
			checkOf(t, b, n, k)
		}
		l := make([]api.Val, 0, len(b))
		for _, c := range b {
			l = append(l, api.Val{Kind: int(int8(c)) >> 5, I: i, S: s})
		}
		for _, column := range [][]api.Val{l, {{Kind: kind, I: i, S: s}}, {{Kind: api.Int, I: i}, {Kind: api.Int, I: int64(n)}}, {{Kind: api.Text, S: s}}, {{Kind: api.Float, I: i}}} {
			for _, k := range append(kinds(), kind) {
				e := wantOfCheck(column, k)
				checkCheck(t, column, k, e)
				if laidDown, _ := plain.Bytes(column, k); e == api.OK && (!slices.Equal(laidDown, laid(column)) || !checkOf(t, laidDown, len(column), k)) {
					t.Fatal(column, k, laidDown)
				}
			}
		}
	})
}
