package seg_test

import (
	"bytes"
	"encoding/binary"
	"hash/crc32"
	"math"
	"slices"
	"strings"
	"testing"

	"astragal/api"
	"astragal/crc"
	"astragal/delta"
	"astragal/dict"
	"astragal/leb"
	"astragal/null"
	"astragal/plain"
	"astragal/rle"
	"astragal/seg"
	"astragal/val"
)

const (
	theNaN    = 0x7FF8000000000000
	blockMost = 1 << 20
)

func num(n int64) api.Val { return api.Val{Kind: api.Int, I: n} }

func ofBits(bits uint64) api.Val { return api.Val{Kind: api.Float, I: int64(bits)} }

func float(f float64) api.Val { return ofBits(math.Float64bits(f)) }

func text(s string) api.Val { return api.Val{Kind: api.Text, S: s} }

// texts are one for each letter.
func texts(letters string) []api.Val {
	var l []api.Val
	for _, r := range letters {
		l = append(l, text(string(r)))
	}
	return l
}

// nums are one for each number.
func nums(l ...int64) []api.Val {
	var all []api.Val
	for _, n := range l {
		all = append(all, num(n))
	}
	return all
}

// kinds are those that a column may have.
func kinds() []int {
	return []int{api.Int, api.Float, api.Text}
}

// noKinds are numbers below 1 and above 3.
func noKinds() []int {
	return []int{api.Null, -1, -2, -3, -256, math.MinInt, 4, 5, 7, 255, 256, 257, 259, 1<<32 + 1, math.MaxInt}
}

// codecsOf are those that a kind has, rising.
func codecsOf(kind int) []int {
	if kind == api.Int {
		return []int{api.Plain, api.Rle, api.Dict, api.Delta}
	}
	return []int{api.Plain, api.Rle, api.Dict}
}

// noCodecs are numbers of none that a kind has, but 0.
func noCodecs(kind int) []int {
	l := []int{-1, -2, -4, -256, math.MinInt, math.MinInt + 1, 5, 6, 8, 255, 256, 257, 260, 4097, 1<<32 + 1, 1<<62 + 1, math.MaxInt}
	if kind != api.Int {
		l = append(l, api.Delta)
	}
	return l
}

// mixed are numbers below most that look like chance, and are the same each time.
func mixed(seed uint64, n, most int) []int {
	l := make([]int, n)
	for i := range l {
		seed = seed*6364136223846793005 + 1442695040888963407
		l[i] = int(seed>>33) % most
	}
	return l
}

// values are such of a kind that may be, with their edges; no two are the same, and they don't rise.
func values(kind int) []api.Val {
	var l []api.Val
	switch kind {
	case api.Int:
		l = nums(5, 7, 0, -1, 1, 2, 63, 64, -64, -65, 300, 8191, 8192, 1<<31, 1<<32+5, math.MinInt64, math.MinInt64+1, math.MaxInt64)
	case api.Float:
		for _, f := range []float64{0, math.Copysign(0, -1), 1, -1, 2.5, -2.5, math.SmallestNonzeroFloat64, math.MaxFloat64, -math.MaxFloat64, math.Inf(1), math.Inf(-1)} {
			l = append(l, float(f))
		}
		l = append(l, ofBits(theNaN))
	case api.Text:
		for _, s := range []string{"b", "", "a", "A", "\x00", "\x00\x00", "\xFF", "ab", "é", "two words"} {
			l = append(l, text(s))
		}
		for _, size := range []int{127, 128, api.MaxText - 1, api.MaxText} {
			l = append(l, text(strings.Repeat("x", size)), text(strings.Repeat("\xFF", size)))
		}
	}
	return l
}

// wrong are values of a kind that may not be.
func wrong(kind int) []api.Val {
	long := strings.Repeat("x", api.MaxText+1)
	switch kind {
	case api.Int:
		return []api.Val{{Kind: kind, S: "x"}, {Kind: kind, I: 5, S: "\x00"}, {Kind: kind, I: -1, S: long}}
	case api.Float:
		return []api.Val{{Kind: kind, S: "x"}, {Kind: kind, I: theNaN, S: "x"}, ofBits(theNaN | 1), ofBits(theNaN | 1<<63), ofBits(0x7FF0000000000001), ofBits(math.MaxUint64)}
	}
	return []api.Val{{Kind: kind, I: 1}, {Kind: kind, I: -1, S: "a"}, text(long), {Kind: kind, I: 1, S: long}}
}

// others are values of any other kind than that and Null, such that may be, and such that may not.
func others(kind int) []api.Val {
	var l []api.Val
	for _, k := range kinds() {
		if k != kind {
			l = append(l, values(k)[:3]...)
			l = append(l, wrong(k)...)
		}
	}
	for _, k := range noKinds() {
		if k != api.Null {
			l = append(l, api.Val{Kind: k}, api.Val{Kind: k, I: 5}, api.Val{Kind: k, S: "x"})
		}
	}
	return l
}

// parts are values of any Kind, I and S, many of which are alike, and no two the same.
func parts() []api.Val {
	var l []api.Val
	for _, kind := range []int{api.Text, 4, -1, api.Float, api.Null, 256, 257, 1<<32 + 1, math.MaxInt, math.MinInt, api.Int} {
		for _, i := range []int64{0, 1, -1, 1 << 32, 256, theNaN, theNaN | 1, math.MinInt64} {
			for _, s := range []string{"x", "", "X", "x\x00", strings.Repeat("x", api.MaxText+1)} {
				l = append(l, api.Val{Kind: kind, I: i, S: s})
			}
		}
	}
	return l
}

// some are n values of a list, in no order.
func some(of []api.Val, n int) []api.Val {
	l := make([]api.Val, n)
	for i, k := range mixed(uint64(n*100+len(of)), n, len(of)) {
		l[i] = of[k]
	}
	return l
}

// unlike are n values of a kind, at most 2^14, no two of which are alike, in no order.
func unlike(n, kind int) []api.Val {
	l := make([]api.Val, n)
	for i := range l {
		at := i * 4099 % (1 << 14) // 4099 is odd: no place comes twice
		switch kind {
		case api.Int:
			l[i] = num(int64(at - 1<<13))
		case api.Float:
			l[i] = float(float64(at-1<<13) / 8)
		case api.Text:
			l[i] = text(strings.Repeat("t", at%5) + string(binary.AppendUvarint(nil, uint64(at))))
		}
	}
	return l
}

// withNull is l with Null ahead of each value whose place, from 0 on, is so many times each, and with one behind them all.
func withNull(l []api.Val, each int) []api.Val {
	var all []api.Val
	for i, v := range l {
		if i%each == 0 {
			all = append(all, api.Val{})
		}
		all = append(all, v)
	}
	return append(all, api.Val{})
}

// columns are lists of values of a kind, with Null among them and without, up to the most.
func columns(kind int) [][]api.Val {
	all := values(kind)
	l := [][]api.Val{nil, {}, {{}}, {{}, {}}, make([]api.Val, 8), make([]api.Val, 9), all, slices.Concat(all, all), slices.Repeat(all[:2], 20)}
	for i, v := range all {
		l = append(l, []api.Val{v}, []api.Val{v, v}, []api.Val{v, {}}, []api.Val{{}, v}, []api.Val{v, v, all[0], {}, all[1], v}, slices.Repeat([]api.Val{v}, 20+i))
	}
	for n := range 20 {
		l = append(l, some(all, n), some(all[:2], n), some(append(all[:3:3], api.Val{}), n), unlike(n, kind))
		l = append(l, withNull(some(all[:5], n), n%4+1), withNull(unlike(n, kind), n%7+1))
	}
	for _, n := range []int{127, 128, 255, 256, 257} {
		few := unlike(n, kind)
		l = append(l, few, append(few, few[0], api.Val{}, few[n-1]), make([]api.Val, n), withNull(few, 8))
	}
	return l
}

// longColumns are such of the most values, and of one less.
func longColumns(kind int) [][]api.Val {
	var l [][]api.Val
	for _, n := range []int{api.MaxRows - 1, api.MaxRows} {
		all := unlike(n, kind)
		l = append(l, all, slices.Repeat(all[:1], n), some(all[:300], n), make([]api.Val, n), some(append(all[:3:3], api.Val{}), n))
		l = append(l, append(make([]api.Val, n-1), all[0]), append(all[:n-1:n-1], api.Val{}))
	}
	return l
}

// isNull is asked of the kind alone.
func isNull(v api.Val) bool { return v.Kind == 0 }

// wantZone is the chapter's words on a zone, value by value.
func wantZone(l []api.Val) api.Zone {
	z := api.Zone{Rows: len(l)}
	first := true
	for _, v := range l {
		if isNull(v) {
			z.Nulls++
			continue
		}
		if first || val.Compare(v, z.Min) == -1 {
			z.Min = v
		}
		if first || val.Compare(v, z.Max) == 1 {
			z.Max = v
		}
		first = false
	}
	return z
}

// wantBody is P11.1's words on Body.
func wantBody(l []api.Val, kind, codec int) ([]byte, api.Errno) {
	switch {
	case codec == 1:
		return plain.Bytes(l, kind)
	case codec == 2:
		return rle.Bytes(l, kind)
	case codec == 3:
		return dict.Bytes(l, kind)
	case codec == 4 && kind == api.Int:
		return delta.Bytes(l)
	}
	return nil, api.ErrArg
}

// wantLeast is the codec that P11.2 has Make take, if it is to choose.
func wantLeast(l []api.Val, kind int) int {
	var sizes []int
	for _, codec := range codecsOf(kind) {
		b, _ := wantBody(l, kind, codec)
		sizes = append(sizes, len(b))
	}
	return slices.Index(sizes, slices.Min(sizes)) + 1
}

// wantMake is P11.2's words, one by one.
func wantMake(l []api.Val, kind, codec int) (seg.Seg, api.Errno) {
	there := slices.DeleteFunc(slices.Clone(l), isNull)
	if e := plain.Check(there, kind); e != api.OK {
		return seg.Seg{}, e
	}
	if len(l) > 4096 {
		return seg.Seg{}, api.ErrRange
	}
	if codec == 0 {
		codec = wantLeast(there, kind)
	}
	body, e := wantBody(there, kind, codec)
	if e != api.OK {
		return seg.Seg{}, e
	}
	s := seg.Seg{Kind: kind, Codec: codec, Zone: wantZone(l), Body: body}
	if len(there) < len(l) {
		for _, v := range l {
			s.Nulls = append(s.Nulls, isNull(v))
		}
	}
	return s, api.OK
}

// areSame holds two segments against each other, nil and empty the same.
func areSame(a, b seg.Seg) bool {
	return a.Kind == b.Kind && a.Codec == b.Codec && a.Zone == b.Zone && slices.Equal(a.Nulls, b.Nulls) && bytes.Equal(a.Body, b.Body)
}

// isZero tells whether a segment is the zero value, nil and empty the same.
func isZero(s seg.Seg) bool { return areSame(s, seg.Seg{}) }

// clone shares nothing with s.
func clone(s seg.Seg) seg.Seg {
	s.Nulls, s.Body = slices.Clone(s.Nulls), bytes.Clone(s.Body)
	return s
}

// laidValue are the bytes of a value that may be, by the words of chapters 2, 4 and 5; of any other one none.
func laidValue(v api.Val) []byte {
	switch {
	case !val.May(v):
		return nil
	case v.Kind == api.Int:
		return binary.AppendVarint(nil, v.I)
	case v.Kind == api.Float && v.I < 0:
		return binary.BigEndian.AppendUint64(nil, ^uint64(v.I))
	case v.Kind == api.Float:
		return binary.BigEndian.AppendUint64(nil, uint64(v.I)^1<<63)
	case v.Kind == api.Text:
		return append(binary.AppendUvarint(nil, uint64(len(v.S))), v.S...)
	}
	return nil
}

// laidValues are the bytes of values, one behind the other.
func laidValues(l ...api.Val) []byte {
	var b []byte
	for _, v := range l {
		b = append(b, laidValue(v)...)
	}
	return b
}

// laidNulls are the bits of which values are Null, by the words of chapters 1 and 6.
func laidNulls(nulls []bool) []byte {
	b := make([]byte, (len(nulls)+7)/8)
	for i, null := range nulls {
		if null {
			b[i/8] |= 1 << (i % 8)
		}
	}
	return b
}

// laidNumbers are numbers, one behind the other.
func laidNumbers(l ...uint64) []byte {
	var b []byte
	for _, n := range l {
		b = binary.AppendUvarint(b, n)
	}
	return b
}

// held are the bytes that a segment's block has, whatever the segment is.
func held(s seg.Seg) []byte {
	head := laidNumbers(uint64(s.Kind), uint64(s.Codec), uint64(s.Zone.Rows), uint64(s.Zone.Nulls))
	return slices.Concat(head, laidNulls(s.Nulls), laidValue(s.Zone.Min), laidValue(s.Zone.Max), s.Body)
}

// block is b with its number and sum, by the words of chapter 3.
func block(b []byte) []byte {
	all := append(binary.AppendUvarint(nil, uint64(len(b))), b...)
	return binary.LittleEndian.AppendUint32(all, crc32.ChecksumIEEE(b))
}

// wantVals is P11.3's words on Vals.
func wantVals(s seg.Seg) ([]api.Val, api.Errno) {
	n := s.Zone.Rows - s.Zone.Nulls
	var l []api.Val
	var e api.Errno
	switch {
	case s.Codec == 1:
		l, e = plain.Of(s.Body, n, s.Kind)
	case s.Codec == 2:
		l, e = rle.Of(s.Body, n, s.Kind)
	case s.Codec == 3:
		l, e = dict.Of(s.Body, n, s.Kind)
	case s.Codec == 4 && s.Kind == api.Int:
		l, e = delta.Of(s.Body, n)
	default:
		e = api.ErrArg
	}
	if e != api.OK || len(s.Nulls) == 0 {
		return l, e
	}
	return null.Join(s.Nulls, l)
}

// wantHeld is P11.3's words on a block's bytes, one by one.
func wantHeld(b []byte) (seg.Seg, api.Errno) {
	var l []uint64
	for range 4 {
		n, size, e := leb.Get(b)
		if e != api.OK {
			return seg.Seg{}, e
		}
		l = append(l, n)
		b = b[size:]
	}
	kind, codec, rows, nulls := l[0], l[1], l[2], l[3]
	if kind == 0 || kind > 3 || rows > 4096 || nulls > rows {
		return seg.Seg{}, api.ErrForm
	}
	s := seg.Seg{Kind: int(kind), Codec: int(codec), Zone: api.Zone{Rows: int(rows), Nulls: int(nulls)}}
	var e api.Errno
	if nulls != 0 {
		size := int(rows+7) / 8
		if len(b) < size {
			return seg.Seg{}, api.ErrShort
		}
		if s.Nulls, e = null.Of(b[:size], int(rows)); e != api.OK {
			return seg.Seg{}, e
		}
		b = b[size:]
	}
	if nulls < rows {
		if s.Zone.Min, b, e = val.Of(b, s.Kind); e != api.OK {
			return seg.Seg{}, e
		}
		if s.Zone.Max, b, e = val.Of(b, s.Kind); e != api.OK {
			return seg.Seg{}, e
		}
	}
	s.Body = b
	vals, e := wantVals(s)
	if e != api.OK {
		return seg.Seg{}, api.ErrForm
	}
	if made, e := wantMake(vals, s.Kind, s.Codec); e != api.OK || !areSame(made, s) {
		return seg.Seg{}, api.ErrForm
	}
	return s, api.OK
}

// wantOf is P11.3's words on Of.
func wantOf(b []byte) (seg.Seg, []byte, api.Errno) {
	opened, rest, e := crc.Open(b, blockMost)
	if e != api.OK {
		return seg.Seg{}, nil, e
	}
	s, e := wantHeld(opened)
	if e != api.OK {
		return seg.Seg{}, nil, e
	}
	return s, rest, api.OK
}

// checkOf holds what is read against the chapter's words, and tells whether it was taken.
func checkOf(t *testing.T, b []byte) bool {
	t.Helper()
	was := bytes.Clone(b)
	want, wantRest, wantE := wantOf(b)
	s, rest, e := seg.Of(b)
	if !areSame(s, want) || !bytes.Equal(rest, wantRest) || e != wantE || !bytes.Equal(b, was) {
		t.Fatal(b[:min(len(b), 99)], len(b), s.Kind, s.Codec, s.Zone, len(rest), e, wantE)
	}
	if e != api.OK {
		return false
	}
	if again := seg.Bytes(s); !bytes.Equal(again, b[:len(b)-len(rest)]) {
		t.Fatal(b, again)
	}
	l, e := s.Vals()
	if e != api.OK || len(l) != s.Zone.Rows || seg.Zone(l) != s.Zone {
		t.Fatal(b, len(l), s.Zone, e)
	}
	return true
}

// checkRefused holds Of against an error that is known, with zero values.
func checkRefused(t *testing.T, b []byte, want api.Errno) {
	t.Helper()
	if s, rest, e := seg.Of(b); !isZero(s) || len(rest) != 0 || e != want {
		t.Error(b[:min(len(b), 40)], len(b), s.Kind, s.Codec, s.Zone, len(rest), e, want)
	}
}

// checkHeld holds Of of a block of these bytes against an error that is known, which the chapter's words have, too.
func checkHeld(t *testing.T, b []byte, want api.Errno) {
	t.Helper()
	checkRefused(t, block(b), want)
	checkRefused(t, append(block(b), 7, 7), want)
	if _, e := wantHeld(b); e != want {
		t.Error(b, e, want)
	}
}

// checkMake holds a segment against the chapter's words, and what is laid down and read of it against what it was made of.
func checkMake(t *testing.T, l []api.Val, kind, codec int) {
	t.Helper()
	was := slices.Clone(l)
	want, wantE := wantMake(l, kind, codec)
	s, e := seg.Make(l, kind, codec)
	if !areSame(s, want) || e != wantE || !slices.Equal(l, was) {
		t.Fatal(len(l), kind, codec, s.Codec, s.Zone, want.Codec, want.Zone, e, wantE)
	}
	if e != api.OK {
		if !isZero(s) {
			t.Fatal(len(l), kind, codec, s)
		}
		return
	}
	b := seg.Bytes(s)
	if !areSame(s, want) || !bytes.Equal(b, block(held(s))) {
		t.Fatal(len(l), kind, codec, s.Zone, len(b))
	}
	for i, v := range was {
		if isNull(v) {
			was[i] = api.Val{} // an I or S beside it isn't kept
		}
	}
	if got, e := s.Vals(); !slices.Equal(got, was) || e != api.OK {
		t.Fatal(len(l), kind, codec, len(got), e)
	}
	if len(held(s)) <= blockMost && !checkOf(t, b) {
		t.Fatal(len(l), kind, codec, len(b))
	}
}

// checkNotMade holds Make against an error that is known.
func checkNotMade(t *testing.T, l []api.Val, kind, codec int, want api.Errno) {
	t.Helper()
	was := slices.Clone(l)
	if s, e := seg.Make(l, kind, codec); !isZero(s) || e != want || !slices.Equal(l, was) {
		t.Error(len(l), kind, codec, s.Codec, s.Zone, e, want)
	}
	if _, e := wantMake(l, kind, codec); e != want {
		t.Error(len(l), kind, codec, e, want)
	}
}

// P11.1: zones that are known.
func TestZone(t *testing.T) {
	none := api.Val{}
	minus, plus, nan := float(math.Copysign(0, -1)), float(0), ofBits(theNaN)
	for k, c := range []struct {
		l    []api.Val
		want api.Zone
	}{
		{nil, api.Zone{}},
		{[]api.Val{}, api.Zone{}},
		{[]api.Val{none}, api.Zone{Rows: 1, Nulls: 1}},
		{make([]api.Val, 9), api.Zone{Rows: 9, Nulls: 9}},
		{nums(5), api.Zone{Rows: 1, Min: num(5), Max: num(5)}},
		{nums(5, 5, 5, 5), api.Zone{Rows: 4, Min: num(5), Max: num(5)}},
		{nums(3, 7, 4), api.Zone{Rows: 3, Min: num(3), Max: num(7)}},
		{nums(7, 3), api.Zone{Rows: 2, Min: num(3), Max: num(7)}},
		{[]api.Val{none, num(-1), none, num(-2)}, api.Zone{Rows: 4, Nulls: 2, Min: num(-2), Max: num(-1)}},
		{[]api.Val{num(-3), none}, api.Zone{Rows: 2, Nulls: 1, Min: num(-3), Max: num(-3)}},
		{nums(0, math.MaxInt64, math.MinInt64), api.Zone{Rows: 3, Min: num(math.MinInt64), Max: num(math.MaxInt64)}},
		{[]api.Val{plus, minus, plus}, api.Zone{Rows: 3, Min: minus, Max: plus}},
		{[]api.Val{nan, float(math.Inf(1)), float(math.Inf(-1))}, api.Zone{Rows: 3, Min: float(math.Inf(-1)), Max: nan}},
		{texts("bac"), api.Zone{Rows: 3, Min: text("a"), Max: text("c")}},
		{[]api.Val{text("ab"), text(""), text("a"), text("\xFF"), text("é")}, api.Zone{Rows: 5, Min: text(""), Max: text("\xFF")}},
		{[]api.Val{text("5"), float(5), num(5), none}, api.Zone{Rows: 4, Nulls: 1, Min: num(5), Max: text("5")}},
		{[]api.Val{{Kind: 9}, none, {Kind: -9}, num(0)}, api.Zone{Rows: 4, Nulls: 1, Min: api.Val{Kind: -9}, Max: api.Val{Kind: 9}}},
		{[]api.Val{{I: 1}, {S: "x"}, {I: -7, S: "y"}}, api.Zone{Rows: 3, Nulls: 3}},
		{[]api.Val{{I: 1}, num(4), {S: "x"}}, api.Zone{Rows: 3, Nulls: 2, Min: num(4), Max: num(4)}},
	} {
		if z := seg.Zone(c.l); z != c.want {
			t.Error(k, z)
		}
		if z := wantZone(c.l); z != c.want {
			t.Error(k, z)
		}
	}
}

// P11.1: of several that are alike and not the same the first one is the least, and the greatest.
func TestZoneOfWhatIsAlike(t *testing.T) {
	low, high := api.Val{Kind: math.MinInt}, api.Val{Kind: math.MaxInt}
	for k, c := range [][3]api.Val{
		{{Kind: api.Int, I: 5}, {Kind: api.Int, I: 5, S: "x"}, {Kind: api.Int, I: 5, S: "a"}},
		{{Kind: api.Text, S: "x"}, {Kind: api.Text, I: 1, S: "x"}, {Kind: api.Text, I: -1, S: "x"}},
		{float(1), {Kind: api.Float, I: float(1).I, S: "x"}, {Kind: api.Float, I: float(1).I, S: "a"}},
		{ofBits(theNaN), ofBits(theNaN | 1), ofBits(math.MaxUint64)},
		{{Kind: 4}, {Kind: 4, I: 1}, {Kind: 4, I: -1, S: "x"}},
		{{Kind: -1, S: "x"}, {Kind: -1}, {Kind: -1, I: 7}},
	} {
		for turn := range 3 {
			a, b, d := c[turn], c[(turn+1)%3], c[(turn+2)%3]
			if z := seg.Zone([]api.Val{a, b, d, a}); z != (api.Zone{Rows: 4, Min: a, Max: a}) {
				t.Error(k, turn, z)
			}
			if z := seg.Zone([]api.Val{{}, high, a, b, {}, d}); z != (api.Zone{Rows: 6, Nulls: 2, Min: a, Max: high}) {
				t.Error(k, turn, z)
			}
			if z := seg.Zone([]api.Val{low, a, {}, b, d}); z != (api.Zone{Rows: 5, Nulls: 1, Min: low, Max: a}) {
				t.Error(k, turn, z)
			}
		}
	}
}

// P11.1 and R5: of any values, which stay as they are.
func TestZoneOfAnyValues(t *testing.T) {
	all := parts()
	lists := [][]api.Val{all, slices.Concat(all[200:], all)}
	for n := range 200 {
		lists = append(lists, some(all, n), some(all[n:n+5], n), all[n:n+3])
	}
	for _, kind := range kinds() {
		lists = append(lists, columns(kind)...)
		lists = append(lists, unlike(1<<14, kind))
	}
	for k, l := range lists {
		was := slices.Clone(l)
		if z := seg.Zone(l); z != wantZone(l) || !slices.Equal(l, was) {
			t.Error(k, len(l), z)
		}
	}
}

// P11.1: bodies that are known, of each codec.
func TestBody(t *testing.T) {
	minusOne := []byte{0x40, 0x0F, 255, 255, 255, 255, 255, 255}
	for k, c := range []struct {
		l           []api.Val
		kind, codec int
		want        []byte
	}{
		{nums(5, 5, 7), api.Int, api.Plain, []byte{10, 10, 14}},
		{nums(5, 5, 7), api.Int, api.Rle, []byte{2, 10, 1, 14}},
		{nums(5, 5, 7), api.Int, api.Dict, []byte{2, 10, 14, 0b100}},
		{nums(5, 5, 7), api.Int, api.Delta, []byte{10, 3, 0b100_000}},
		{nums(3, 5, 4), api.Int, api.Delta, []byte{6, 3, 12}},
		{[]api.Val{float(-1), float(-1)}, api.Float, api.Plain, slices.Concat(minusOne, minusOne)},
		{[]api.Val{float(-1), float(-1)}, api.Float, api.Rle, append([]byte{2}, minusOne...)},
		{[]api.Val{float(-1), float(-1)}, api.Float, api.Dict, append([]byte{1}, minusOne...)},
		{texts("bab"), api.Text, api.Plain, []byte{1, 'b', 1, 'a', 1, 'b'}},
		{texts("bab"), api.Text, api.Rle, []byte{1, 1, 'b', 1, 1, 'a', 1, 1, 'b'}},
		{texts("bab"), api.Text, api.Dict, []byte{2, 1, 'a', 1, 'b', 5}},
		{nil, api.Int, api.Plain, nil},
		{nil, api.Int, api.Rle, nil},
		{nil, api.Int, api.Dict, []byte{0}},
		{nil, api.Int, api.Delta, nil},
		{[]api.Val{}, api.Float, api.Plain, nil},
		{[]api.Val{}, api.Float, api.Rle, nil},
		{[]api.Val{}, api.Float, api.Dict, []byte{0}},
		{nil, api.Text, api.Plain, nil},
		{nil, api.Text, api.Rle, nil},
		{nil, api.Text, api.Dict, []byte{0}},
	} {
		if b, e := seg.Body(c.l, c.kind, c.codec); !bytes.Equal(b, c.want) || e != api.OK {
			t.Error(k, b, e)
		}
	}
}

// P11.1: each codec's own bytes, or its error, of any values; an error has no bytes beside it.
func TestBodyIsTheCodecs(t *testing.T) {
	for _, kind := range append(kinds(), noKinds()...) {
		lists := [][]api.Val{nil, parts(), make([]api.Val, 1), make([]api.Val, api.MaxRows+1), unlike(api.MaxRows+1, api.Int)}
		for _, k := range kinds() {
			all := columns(k)
			lists = append(lists, all[:40]...)
			lists = append(lists, all[len(all)-6:]...)
			lists = append(lists, wrong(k), unlike(api.MaxRows, k))
		}
		for _, l := range lists {
			was := slices.Clone(l)
			for codec := -1; codec < 7; codec++ {
				want, wantE := wantBody(l, kind, codec)
				b, e := seg.Body(l, kind, codec)
				if !bytes.Equal(b, want) || e != wantE || e != api.OK && len(b) != 0 || !slices.Equal(l, was) {
					t.Fatal(kind, codec, len(l), len(b), len(want), e, wantE)
				}
			}
		}
	}
}

// P11.1: errors that are known: a codec that there is none of, whatever the values are; and the codecs'.
func TestBodyErrors(t *testing.T) {
	for _, kind := range kinds() {
		l := values(kind)
		tooMany := unlike(api.MaxRows+1, kind)
		for _, codec := range append(noCodecs(kind), 0) {
			for _, l := range [][]api.Val{nil, l, {{}}, others(kind), wrong(kind), tooMany} {
				if b, e := seg.Body(l, kind, codec); len(b) != 0 || e != api.ErrArg {
					t.Error(kind, codec, len(l), len(b), e)
				}
			}
		}
		for _, codec := range codecsOf(kind) {
			for _, c := range []struct {
				l []api.Val
				e api.Errno
			}{{append(l[:2:2], api.Val{}), api.ErrKind}, {others(kind)[:1], api.ErrKind}, {wrong(kind), api.ErrArg}, {append(l[:2:2], wrong(kind)[0]), api.ErrArg}, {tooMany, api.ErrRange}} {
				if b, e := seg.Body(c.l, kind, codec); len(b) != 0 || e != c.e {
					t.Error(kind, codec, len(c.l), len(b), e)
				}
			}
		}
	}
	for _, kind := range noKinds() {
		for codec := range 6 {
			if b, e := seg.Body(nil, kind, codec); len(b) != 0 || e != api.ErrArg {
				t.Error(kind, codec, b, e)
			}
		}
	}
}

// P11.2: the example, and others that are known.
func TestMake(t *testing.T) {
	none := api.Val{}
	for k, c := range []struct {
		l           []api.Val
		kind, codec int
		want        seg.Seg
	}{
		{nums(5, 5, 5, 5), api.Int, 0, seg.Seg{Codec: api.Rle, Zone: api.Zone{Rows: 4, Min: num(5), Max: num(5)}, Body: []byte{4, 10}}},
		{nums(5, 5, 5, 5), api.Int, api.Plain, seg.Seg{Codec: api.Plain, Zone: api.Zone{Rows: 4, Min: num(5), Max: num(5)}, Body: []byte{10, 10, 10, 10}}},
		{nums(5, 5, 5, 5), api.Int, api.Dict, seg.Seg{Codec: api.Dict, Zone: api.Zone{Rows: 4, Min: num(5), Max: num(5)}, Body: []byte{1, 10}}},
		{nums(5, 5, 5, 5), api.Int, api.Delta, seg.Seg{Codec: api.Delta, Zone: api.Zone{Rows: 4, Min: num(5), Max: num(5)}, Body: []byte{10, 0}}},
		{nums(1, 2), api.Int, 0, seg.Seg{Codec: api.Plain, Zone: api.Zone{Rows: 2, Min: num(1), Max: num(2)}, Body: []byte{2, 4}}},
		{nums(3, 5, 4), api.Int, api.Delta, seg.Seg{Codec: api.Delta, Zone: api.Zone{Rows: 3, Min: num(3), Max: num(5)}, Body: []byte{6, 3, 12}}},
		{nums(100, 101, 102, 103, 104, 105), api.Int, 0, seg.Seg{Codec: api.Delta, Zone: api.Zone{Rows: 6, Min: num(100), Max: num(105)}, Body: []byte{200, 1, 2, 0b10_10_10_10, 0b10}}},
		{[]api.Val{num(7), none}, api.Int, api.Rle, seg.Seg{Codec: api.Rle, Zone: api.Zone{Rows: 2, Nulls: 1, Min: num(7), Max: num(7)}, Nulls: []bool{false, true}, Body: []byte{1, 14}}},
		{[]api.Val{num(4), num(9), none}, api.Int, 0, seg.Seg{Codec: api.Plain, Zone: api.Zone{Rows: 3, Nulls: 1, Min: num(4), Max: num(9)}, Nulls: []bool{false, false, true}, Body: []byte{8, 18}}},
		{[]api.Val{text("b"), text("a"), none, text("b")}, api.Text, api.Dict, seg.Seg{Codec: api.Dict, Zone: api.Zone{Rows: 4, Nulls: 1, Min: text("a"), Max: text("b")}, Nulls: []bool{false, false, true, false}, Body: []byte{2, 1, 'a', 1, 'b', 5}}},
		{nil, api.Text, 0, seg.Seg{Codec: api.Plain}},
		{[]api.Val{}, api.Float, 0, seg.Seg{Codec: api.Plain}},
		{nil, api.Int, api.Dict, seg.Seg{Codec: api.Dict, Body: []byte{0}}},
		{[]api.Val{none, none}, api.Int, 0, seg.Seg{Codec: api.Plain, Zone: api.Zone{Rows: 2, Nulls: 2}, Nulls: []bool{true, true}}},
		{[]api.Val{none}, api.Float, api.Dict, seg.Seg{Codec: api.Dict, Zone: api.Zone{Rows: 1, Nulls: 1}, Nulls: []bool{true}, Body: []byte{0}}},
		{[]api.Val{none}, api.Int, api.Delta, seg.Seg{Codec: api.Delta, Zone: api.Zone{Rows: 1, Nulls: 1}, Nulls: []bool{true}}},
	} {
		c.want.Kind = c.kind
		if s, e := seg.Make(c.l, c.kind, c.codec); !areSame(s, c.want) || e != api.OK {
			t.Error(k, s, e)
		}
		checkMake(t, c.l, c.kind, c.codec)
	}
}

// P11.2: codec 0 takes the fewest bytes, and of several codecs that need as many the least number.
func TestMakeTakesTheFewest(t *testing.T) {
	long, other := text(strings.Repeat("x", 100)), text(strings.Repeat("y", 100))
	for k, c := range []struct {
		l     []api.Val
		kind  int
		sizes []int // of each codec
		want  int
	}{
		{nil, api.Int, []int{0, 0, 1, 0}, api.Plain},
		{nil, api.Float, []int{0, 0, 1}, api.Plain},
		{nums(5), api.Int, []int{1, 2, 2, 2}, api.Plain},
		{nums(5, 5), api.Int, []int{2, 2, 2, 2}, api.Plain},
		{nums(5, 5, 5), api.Int, []int{3, 2, 2, 2}, api.Rle},
		{nums(5, 5, 5, 5), api.Int, []int{4, 2, 2, 2}, api.Rle},
		{slices.Repeat(nums(5), 128), api.Int, []int{128, 3, 2, 2}, api.Dict},
		{append(slices.Repeat(nums(5, 6), 4), num(5)), api.Int, []int{9, 18, 5, 4}, api.Delta},
		{nums(0, 64, 0, 64, 64), api.Int, []int{8, 10, 5, 6}, api.Dict},
		{nums(100, 130, 130, 100, 100), api.Int, []int{10, 9, 6, 6}, api.Dict},
		{nums(100, 101, 102, 103, 104, 105), api.Int, []int{12, 18, 16, 5}, api.Delta},
		{nums(0, 1, 2), api.Int, []int{3, 6, 5, 3}, api.Plain},
		{[]api.Val{float(1)}, api.Float, []int{8, 9, 9}, api.Plain},
		{[]api.Val{float(1), float(1)}, api.Float, []int{16, 9, 9}, api.Rle},
		{[]api.Val{float(1), float(2), float(1)}, api.Float, []int{24, 27, 18}, api.Dict},
		{[]api.Val{float(1), float(2), float(2)}, api.Float, []int{24, 18, 18}, api.Rle},
		{texts("ab"), api.Text, []int{4, 6, 6}, api.Plain},
		{texts("aa"), api.Text, []int{4, 3, 3}, api.Rle},
		{texts("a"), api.Text, []int{2, 3, 3}, api.Plain},
		{[]api.Val{text(""), text("")}, api.Text, []int{2, 2, 2}, api.Plain},
		{[]api.Val{long, long, other, other}, api.Text, []int{404, 204, 204}, api.Rle},
		{[]api.Val{long, other, long, other}, api.Text, []int{404, 408, 204}, api.Dict},
	} {
		for i, codec := range codecsOf(c.kind) {
			if b, e := seg.Body(c.l, c.kind, codec); len(b) != c.sizes[i] || e != api.OK {
				t.Error(k, codec, len(b), c.sizes[i], e)
			}
		}
		for each := 1; each < 4; each++ {
			for _, l := range [][]api.Val{c.l, withNull(c.l, each)} {
				if s, e := seg.Make(l, c.kind, 0); s.Codec != c.want || len(s.Body) != c.sizes[c.want-1] || e != api.OK {
					t.Error(k, len(l), s.Codec, len(s.Body), e)
				}
			}
		}
	}
}

// P11.2 and P11.4: of any column, by each codec and by codec 0, the chapter's words, and back.
func TestMadeIsRead(t *testing.T) {
	for _, kind := range kinds() {
		for _, l := range columns(kind) {
			for _, codec := range append(codecsOf(kind), 0) {
				checkMake(t, l, kind, codec)
			}
		}
	}
}

// P1, P11.2 and P11.4: of the most values, and of one less.
func TestTheMostIsRead(t *testing.T) {
	for _, kind := range kinds() {
		for _, l := range longColumns(kind) {
			for _, codec := range append(codecsOf(kind), 0) {
				checkMake(t, l, kind, codec)
			}
		}
	}
}

// P11.2: a codec that there is none of, or not of the kind.
func TestMakeOfNoCodec(t *testing.T) {
	for _, kind := range kinds() {
		for _, l := range columns(kind) {
			for _, codec := range noCodecs(kind) {
				checkNotMade(t, l, kind, codec, api.ErrArg)
			}
		}
	}
}

// P11.2: a kind that is none of the three is refused ahead of all else.
func TestMakeOfNoKind(t *testing.T) {
	for _, kind := range noKinds() {
		for _, codec := range []int{0, 1, 2, 3, 4, 5, -1, math.MinInt, math.MaxInt} {
			for _, l := range [][]api.Val{nil, {}, {{}}, nums(5), texts("ab"), {{Kind: kind}}, {{Kind: kind, I: 5, S: "x"}}, wrong(api.Float), make([]api.Val, 4097), unlike(4097, api.Int)} {
				checkNotMade(t, l, kind, codec, api.ErrArg)
			}
		}
	}
}

// P11.2: 4096 values are the most, with Null among them: plain.Check's errors come ahead of ErrRange of all of them, and that ahead of a codec that there is none of.
func TestMakeOrdersErrors(t *testing.T) {
	for _, kind := range kinds() {
		many := unlike(4097, kind)
		other, bad := others(kind)[0], wrong(kind)[0]
		none := make([]api.Val, 4097)
		put := func(l []api.Val, at int, v api.Val) []api.Val {
			l = slices.Clone(l)
			l[at] = v
			return l
		}
		for _, codec := range append(noCodecs(kind), append(codecsOf(kind), 0)...) {
			for k, c := range []struct {
				l []api.Val
				e api.Errno
			}{
				{many, api.ErrRange},
				{append(many, many...), api.ErrRange},
				{put(many, 77, api.Val{}), api.ErrRange},
				{none, api.ErrRange},
				{put(none, 0, many[0]), api.ErrRange},
				{put(many, 4096, api.Val{I: 1, S: "x"}), api.ErrRange},
				// 4097 that aren't Null are plain.Check's, which has ErrRange ahead of what they are.
				{put(many, 4000, other), api.ErrRange},
				{put(many, 4000, bad), api.ErrRange},
				// Of 4097, one of them Null, plain.Check has no ErrRange: what it has comes ahead.
				{put(put(many, 77, api.Val{}), 4096, other), api.ErrKind},
				{put(put(many, 4096, api.Val{}), 0, other), api.ErrKind},
				{put(put(many, 77, api.Val{}), 4096, bad), api.ErrArg},
				{put(none, 4096, other), api.ErrKind},
				{put(none, 4096, bad), api.ErrArg},
				{put(put(none, 4096, other), 0, bad), api.ErrKind},
				{put(put(none, 4096, bad), 0, other), api.ErrKind},
				{[]api.Val{other}, api.ErrKind},
				{[]api.Val{{}, bad, other}, api.ErrKind},
				{[]api.Val{{}, bad, many[0]}, api.ErrArg},
			} {
				if s, e := seg.Make(c.l, kind, codec); !isZero(s) || e != c.e {
					t.Error(k, kind, codec, s.Codec, s.Zone, e, c.e)
				}
			}
		}
		for _, l := range [][]api.Val{many[:4096], put(many, 77, api.Val{})[:4096], put(many, 0, api.Val{})[:4096], none[:4096]} {
			checkMake(t, l, kind, 0)
			for _, codec := range noCodecs(kind) {
				checkNotMade(t, l, kind, codec, api.ErrArg)
			}
		}
	}
}

// P11.2: values of another kind, and such that may not be, wherever they stand.
func TestMakeOfWrongValues(t *testing.T) {
	for _, kind := range kinds() {
		few := values(kind)[:3]
		for _, codec := range append(codecsOf(kind), 0, 5) {
			for at := range 4 {
				for _, v := range others(kind) {
					checkNotMade(t, slices.Insert(slices.Clone(few), at, v), kind, codec, api.ErrKind)
					checkNotMade(t, slices.Insert(withNull(few, 2), at, v), kind, codec, api.ErrKind)
				}
				for _, v := range wrong(kind) {
					checkNotMade(t, slices.Insert(slices.Clone(few), at, v), kind, codec, api.ErrArg)
					checkNotMade(t, slices.Insert(withNull(few, 2), at, v), kind, codec, api.ErrArg)
				}
			}
		}
	}
}

// P11.2: what is Null is told by its Kind: with an I or an S it is Null, and is read without them.
func TestMakeOfNullWithMore(t *testing.T) {
	long := strings.Repeat("x", api.MaxText+1)
	for _, kind := range kinds() {
		few := values(kind)[:2]
		for _, v := range []api.Val{{I: 1}, {I: -1}, {S: "x"}, {I: math.MinInt64, S: long}} {
			for _, codec := range append(codecsOf(kind), 0) {
				for _, l := range [][]api.Val{{v}, {few[0], v, few[1]}, {v, {}, few[0]}, {few[1], few[0], v}} {
					checkMake(t, l, kind, codec)
					plainly := slices.Clone(l)
					for i := range plainly {
						if plainly[i].Kind == api.Null {
							plainly[i] = api.Val{}
						}
					}
					s, e := seg.Make(l, kind, codec)
					same, _ := seg.Make(plainly, kind, codec)
					if !areSame(s, same) || e != api.OK {
						t.Error(kind, codec, l, s, e)
					}
				}
			}
		}
	}
}

// P11.3: bytes that are known.
func TestBytes(t *testing.T) {
	none := api.Val{}
	for k, c := range []struct {
		l           []api.Val
		kind, codec int
		held        []byte
	}{
		{nums(5, 5, 5, 5), api.Int, 0, []byte{1, 2, 4, 0, 10, 10, 4, 10}},
		{nil, api.Text, 0, []byte{3, 1, 0, 0}},
		{nil, api.Float, api.Dict, []byte{2, 3, 0, 0, 0}},
		{[]api.Val{none}, api.Int, api.Delta, []byte{1, 4, 1, 1, 1}},
		{[]api.Val{num(7), none}, api.Int, api.Rle, []byte{1, 2, 2, 1, 0b10, 14, 14, 1, 14}},
		{[]api.Val{text("b"), none, text("a")}, api.Text, api.Plain, []byte{3, 1, 3, 1, 0b010, 1, 'a', 1, 'b', 1, 'b', 1, 'a'}},
		{make([]api.Val, 9), api.Float, api.Plain, []byte{2, 1, 9, 9, 255, 1}},
		{append(slices.Repeat(nums(-1), 299), none), api.Int, api.Rle, slices.Concat([]byte{1, 2, 172, 2, 1}, make([]byte, 37), []byte{0b1000, 1, 1, 171, 2, 1})},
		{slices.Repeat([]api.Val{float(0)}, 3), api.Float, api.Dict, []byte{2, 3, 3, 0, 128, 0, 0, 0, 0, 0, 0, 0, 128, 0, 0, 0, 0, 0, 0, 0, 1, 128, 0, 0, 0, 0, 0, 0, 0}},
	} {
		s, e := seg.Make(c.l, c.kind, c.codec)
		if b := seg.Bytes(s); !bytes.Equal(b, block(c.held)) || e != api.OK {
			t.Error(k, b, e)
		}
		checkOf(t, block(c.held))
	}
	if b := seg.Bytes(seg.Seg{}); !bytes.Equal(b, block([]byte{0, 0, 0, 0})) {
		t.Error(b)
	}
}

// P11.3 and P1: of segments that no call told: each part as it is, numbers modulo 2^64, and nothing of a Min or Max that may not be.
func TestBytesOfAnySeg(t *testing.T) {
	long := strings.Repeat("x", api.MaxText+1)
	numbers := []int{0, 1, 3, 4, 5, 127, 128, 4096, 4097, math.MaxInt, -1, math.MinInt}
	ends := []api.Val{{}, {I: 1}, {S: "x"}, num(-5), {Kind: api.Int, S: "x"}, float(2.5), ofBits(theNaN | 1), text("ab"), text(long), {Kind: api.Text, I: 1, S: "a"}, {Kind: 4}, {Kind: -1, I: 7}}
	for i, n := range numbers {
		for k, v := range ends {
			for size := range 18 {
				s := seg.Seg{Kind: n, Codec: numbers[(i+1)%12], Zone: api.Zone{Rows: numbers[(i+2)%12], Nulls: numbers[(i+3)%12], Min: v, Max: ends[(k+i)%12]}}
				for at := range size {
					s.Nulls = append(s.Nulls, at%3 == 0)
					s.Body = append(s.Body, byte(at*77))
				}
				was := clone(s)
				b := seg.Bytes(s)
				if !bytes.Equal(b, block(held(s))) || !areSame(s, was) {
					t.Fatal(s, b)
				}
				checkOf(t, b)
			}
		}
	}
	if b := seg.Bytes(seg.Seg{Kind: -1, Zone: api.Zone{Min: api.Val{I: 1}, Max: text(long)}, Body: []byte{9}}); !bytes.Equal(b, block([]byte{255, 255, 255, 255, 255, 255, 255, 255, 255, 1, 0, 0, 0, 9})) {
		t.Error(b)
	}
}

// pieces are the parts of a block's bytes.
type pieces struct {
	numbers                [4]uint64 // Kind, Codec, Rows, Nulls
	places, min, max, body []byte
}

func (p pieces) held() []byte {
	return slices.Concat(laidNumbers(p.numbers[:]...), p.places, p.min, p.max, p.body)
}

// aSeg are the pieces of 4, Null, 9 as Plain.
func aSeg() pieces {
	return pieces{numbers: [4]uint64{1, 1, 3, 1}, places: []byte{0b010}, min: []byte{8}, max: []byte{18}, body: []byte{8, 18}}
}

// checkPieces holds Of of some pieces, changed, against an error that is known; OK, if they are to be taken.
func checkPieces(t *testing.T, p pieces, want api.Errno, change func(*pieces)) {
	t.Helper()
	change(&p)
	if want != api.OK {
		checkHeld(t, p.held(), want)
		return
	}
	if !checkOf(t, block(p.held())) {
		t.Error(p)
	}
}

// P11.3: Open's errors: a number that is cut or put in more bytes, more than 2^20, too few bytes, another sum.
func TestOfOrdersOpensErrors(t *testing.T) {
	b := block(aSeg().held())
	if !checkOf(t, b) {
		t.Fatal(b)
	}
	for k, c := range []struct {
		b []byte
		e api.Errno
	}{
		{nil, api.ErrShort},
		{[]byte{}, api.ErrShort},
		{[]byte{128}, api.ErrShort},
		{[]byte{128, 0}, api.ErrForm},
		{append(bytes.Repeat([]byte{255}, 9), 2), api.ErrForm},
		{append(bytes.Repeat([]byte{255}, 9), 1), api.ErrRange},
		{[]byte{128, 128, 64}, api.ErrShort},
		{[]byte{129, 128, 64}, api.ErrRange},
		{[]byte{0}, api.ErrShort},
		{[]byte{0, 0, 0, 0}, api.ErrShort},
		{[]byte{0, 0, 0, 0, 1}, api.ErrCorrupt},
		{[]byte{0, 0, 0, 0, 0}, api.ErrShort}, // a block of no bytes: the first number is missing
		{b[:len(b)-1], api.ErrShort},
		{append(b[:len(b)-1:len(b)-1], b[len(b)-1]^128), api.ErrCorrupt},
		{b[1:], api.ErrCorrupt}, // as a block of one byte
	} {
		checkRefused(t, c.b, c.e)
		if _, _, e := wantOf(c.b); e != c.e {
			t.Error(k, e)
		}
	}
}

// P11.3: the four numbers: the first error of leb's comes ahead of what they are.
func TestOfNumbers(t *testing.T) {
	tooLong := append(bytes.Repeat([]byte{255}, 9), 2)
	p := aSeg()
	for _, first := range [][]byte{{1, 1, 3, 1}, {0, 1, 3, 1}, {4, 9, 3, 4}, {1, 1, 129, 32, 1}, {1, 1, 3, 4}} {
		at := 0
		for n := range 4 {
			// As many numbers as n, and then one that ends too early, has too many bytes, or bits beyond 64.
			checkHeld(t, first[:at], api.ErrShort)
			checkHeld(t, append(first[:at:at], 128), api.ErrShort)
			checkHeld(t, slices.Concat(first[:at], []byte{255, 255}), api.ErrShort)
			checkHeld(t, slices.Concat(first[:at], []byte{128, 0}, p.held()), api.ErrForm)
			checkHeld(t, slices.Concat(first[:at], tooLong, p.held()), api.ErrForm)
			at++
			if n == 2 && len(first) == 5 {
				at++
			}
		}
	}
	big := []uint64{1 << 32, 1<<32 + 1, 1<<32 + 3, 1 << 63, 1<<63 + 1, 1<<63 + 3, math.MaxUint64 - 3, math.MaxUint64}
	// ErrForm, and not ErrShort of what comes behind: nothing does.
	bare := func(q *pieces) { q.places, q.min, q.max, q.body = nil, nil, nil, nil }
	for _, n := range append(big, 0, 4, 5, 127, 128, 256, 257, 4096) {
		for _, more := range []func(*pieces){func(*pieces) {}, bare} {
			checkPieces(t, p, api.ErrForm, func(q *pieces) { q.numbers[0] = n; more(q) })
		}
	}
	for _, n := range append(big, 4097, 4098, 8192) {
		checkPieces(t, p, api.ErrForm, func(q *pieces) { q.numbers[2] = n; bare(q) })
		checkPieces(t, p, api.ErrForm, func(q *pieces) { q.numbers[2], q.numbers[3] = n, n; bare(q) })
		checkPieces(t, p, api.ErrForm, func(q *pieces) { q.numbers[2], q.numbers[3] = n, 0; bare(q) })
		checkPieces(t, p, api.ErrForm, func(q *pieces) { q.numbers[3] = n; bare(q) })
		checkPieces(t, p, api.ErrForm, func(q *pieces) { q.numbers[2], q.numbers[3] = 4096, n; bare(q) })
	}
	for rows := range uint64(20) {
		checkPieces(t, p, api.ErrForm, func(q *pieces) { q.numbers[2], q.numbers[3] = rows, rows+1; bare(q) })
		checkPieces(t, p, api.ErrForm, func(q *pieces) { q.numbers[2], q.numbers[3] = rows, rows+1 })
	}
	checkPieces(t, p, api.ErrForm, func(q *pieces) { q.numbers[2], q.numbers[3] = 4096, 4097; bare(q) })
	// As many as there may be are asked further: there are no places.
	checkPieces(t, p, api.ErrShort, func(q *pieces) { q.numbers[2], q.numbers[3] = 4096, 4096; bare(q) })
	checkPieces(t, p, api.ErrShort, func(q *pieces) { q.numbers[2], q.numbers[3] = 1, 1; bare(q) })
	checkPieces(t, p, api.OK, func(q *pieces) { q.numbers[2], q.numbers[3] = 0, 0; bare(q) })
}

// P11.3: which are Null: too few bytes, bits behind them, and places that tell another many than Nulls.
func TestOfPlaces(t *testing.T) {
	p := aSeg()
	ok := func(*pieces) {}
	checkPieces(t, p, api.OK, ok)
	for _, rows := range []uint64{1, 7, 8, 9, 16, 17, 255, 256, 4095, 4096} {
		size := int(rows+7) / 8
		for _, nulls := range []uint64{1, rows/2 + 1, rows} {
			// What stands there would be a Min and a Max, if it weren't asked for as places.
			for short := range min(size, 4) {
				checkPieces(t, p, api.ErrShort, func(q *pieces) {
					*q = pieces{numbers: [4]uint64{1, 1, rows, nulls}, places: make([]byte, size-1-short)}
				})
			}
			for bit := rows; bit < uint64(size)*8; bit++ {
				checkPieces(t, p, api.ErrForm, func(q *pieces) {
					*q = pieces{numbers: [4]uint64{1, 1, rows, nulls}, places: make([]byte, size)}
					q.places[size-1] |= 1 << (bit % 8)
				})
			}
		}
	}
	for places := range byte(8) {
		want := api.ErrForm
		if places == 1 || places == 2 || places == 4 { // one of three is Null
			want = api.OK
		}
		checkPieces(t, p, want, func(q *pieces) { q.places[0] = places })
		checkPieces(t, p, api.ErrForm, func(q *pieces) { q.places[0] = places | 8 })
		checkPieces(t, p, api.ErrForm, func(q *pieces) { q.places[0] = places | 128 })
		// Bits behind them come ahead of a Min that is missing; another many does not.
		checkPieces(t, p, api.ErrForm, func(q *pieces) { q.places[0] = places | 8; q.min, q.max, q.body = nil, nil, nil })
		checkPieces(t, p, api.ErrShort, func(q *pieces) { q.places[0] = places; q.min, q.max, q.body = nil, nil, nil })
	}
	// All of them are Null, by the number: there is no Min, whatever the places tell.
	for places := range byte(8) {
		want := api.ErrForm
		if places == 7 {
			want = api.OK
		}
		checkPieces(t, p, want, func(q *pieces) {
			*q = pieces{numbers: [4]uint64{1, 1, 3, 3}, places: []byte{places}}
		})
	}
	// None of them is, by the number: there are no places.
	checkPieces(t, p, api.ErrForm, func(q *pieces) { q.numbers[3] = 0 })
	checkPieces(t, p, api.ErrForm, func(q *pieces) { q.numbers[3] = 0; q.body = []byte{8, 8, 18} })
	checkPieces(t, p, api.OK, func(q *pieces) { q.numbers[3], q.places, q.body = 0, nil, []byte{8, 8, 18} })
	checkPieces(t, p, api.ErrForm, func(q *pieces) { q.numbers[3], q.body = 2, []byte{8} })
}

// P11.3: Min and Max: val's errors of them, in turn, and such that are not the values'.
func TestOfEnds(t *testing.T) {
	p := aSeg()
	for k, c := range []struct {
		min, max []byte
		e        api.Errno
	}{
		{nil, nil, api.ErrShort},
		{[]byte{8}, nil, api.ErrShort},
		{[]byte{128}, nil, api.ErrShort},
		{[]byte{8}, []byte{128}, api.ErrShort},
		{[]byte{128, 0}, []byte{18}, api.ErrForm},
		{[]byte{8}, []byte{146, 0}, api.ErrForm},
		{[]byte{128, 0}, nil, api.ErrForm},
	} {
		checkPieces(t, p, c.e, func(q *pieces) { q.min, q.max, q.body = c.min, c.max, nil })
		// A codec that there is none of is asked behind them.
		checkPieces(t, p, c.e, func(q *pieces) { q.min, q.max, q.body, q.numbers[1] = c.min, c.max, nil, uint64(5*k) })
	}
	for low := range byte(40) {
		for high := range byte(40) {
			want := api.ErrForm
			if low == 8 && high == 18 {
				want = api.OK
			}
			checkPieces(t, p, want, func(q *pieces) { q.min, q.max = []byte{low}, []byte{high} })
		}
	}
	checkPieces(t, p, api.ErrForm, func(q *pieces) { q.min, q.max = q.max, q.min })
	checkPieces(t, p, api.ErrForm, func(q *pieces) { q.min = nil })
	checkPieces(t, p, api.ErrForm, func(q *pieces) { q.min, q.max = laidValue(text("a")), laidValue(text("b")) })
	checkPieces(t, p, api.ErrForm, func(q *pieces) { q.min, q.max = laidValue(float(4)), laidValue(float(9)) })

	texts := pieces{numbers: [4]uint64{3, 1, 2, 0}, min: []byte{1, 'a'}, max: []byte{1, 'b'}, body: []byte{1, 'b', 1, 'a'}}
	long := append([]byte{129, 8}, bytes.Repeat([]byte{'x'}, 1025)...)
	checkPieces(t, texts, api.OK, func(*pieces) {})
	checkPieces(t, texts, api.ErrForm, func(q *pieces) { q.min, q.max = q.max, q.min })
	checkPieces(t, texts, api.ErrForm, func(q *pieces) { q.max = []byte{1, 'c'} })
	checkPieces(t, texts, api.ErrForm, func(q *pieces) { q.min = []byte{0} })
	checkPieces(t, texts, api.ErrRange, func(q *pieces) { q.min = long })
	checkPieces(t, texts, api.ErrRange, func(q *pieces) { q.max = long })
	checkPieces(t, texts, api.ErrRange, func(q *pieces) { q.min, q.max = long, []byte{128, 0} })
	checkPieces(t, texts, api.ErrForm, func(q *pieces) { q.min, q.max = []byte{128, 0}, long })
	checkPieces(t, texts, api.ErrShort, func(q *pieces) { q.min, q.max, q.body = []byte{5, 'a'}, nil, nil })
	checkPieces(t, texts, api.ErrShort, func(q *pieces) { q.max, q.body = []byte{5, 'a'}, nil })

	one := laidValue(float(1))
	noKey := bytes.Repeat([]byte{255}, 8)
	floats := pieces{numbers: [4]uint64{2, 2, 1, 0}, min: one, max: one, body: append([]byte{1}, one...)}
	checkPieces(t, floats, api.OK, func(*pieces) {})
	checkPieces(t, floats, api.ErrForm, func(q *pieces) { q.min = noKey })
	checkPieces(t, floats, api.ErrForm, func(q *pieces) { q.max = noKey })
	checkPieces(t, floats, api.ErrForm, func(q *pieces) { q.min, q.max, q.body = noKey, nil, nil })
	checkPieces(t, floats, api.ErrForm, func(q *pieces) { q.max = laidValue(float(2)) })
	checkPieces(t, floats, api.ErrForm, func(q *pieces) { q.min = laidValue(float(0)) })
	checkPieces(t, floats, api.ErrShort, func(q *pieces) { q.min, q.max, q.body = one[:7], nil, nil })
	checkPieces(t, floats, api.ErrShort, func(q *pieces) { q.max, q.body = one[:7], nil })
}

// P11.3: a Body that its codec refuses, and a codec that there is none of, are ErrForm, whatever the codec's error is.
func TestOfBodies(t *testing.T) {
	p := aSeg()
	for _, c := range []struct {
		codec uint64
		body  []byte
		want  api.Errno
	}{
		{1, []byte{8, 18}, api.OK},
		{1, nil, api.ErrForm},
		{1, []byte{8}, api.ErrForm},
		{1, []byte{8, 128}, api.ErrForm},
		{1, []byte{8, 146, 0}, api.ErrForm},
		{1, []byte{8, 18, 0}, api.ErrForm},
		{1, []byte{18, 8}, api.OK}, // another segment's, that has the same zone
		{1, []byte{8, 16}, api.ErrForm},
		{2, []byte{1, 8, 1, 18}, api.OK},
		{2, []byte{2, 8}, api.ErrForm},
		{2, []byte{0, 8, 1, 18}, api.ErrForm},
		{2, []byte{8, 18}, api.ErrForm},
		{3, []byte{2, 8, 18, 0b10}, api.OK},
		{3, []byte{2, 8, 18, 0b01}, api.OK},
		{3, []byte{2, 8, 18, 0b00}, api.ErrForm},
		{3, []byte{2, 8, 18, 0b110}, api.ErrForm},
		{3, []byte{2, 18, 8, 0b01}, api.ErrForm},
		{3, []byte{3, 8, 18, 20, 0b0100}, api.ErrForm},
		{4, []byte{8, 4, 10}, api.OK},
		{4, []byte{8, 5, 10}, api.ErrForm},
		{4, []byte{8, 65, 10}, api.ErrForm},
		{4, nil, api.ErrForm},
		{4, []byte{18, 4, 9}, api.OK}, // 9 and then 5 less
	} {
		checkPieces(t, p, c.want, func(q *pieces) { q.numbers[1], q.body = c.codec, c.body })
	}
	for _, codec := range []uint64{0, 5, 6, 255, 256, 257, 4096, 4097, 1 << 32, 1<<32 + 1, 1 << 63, 1<<63 + 1, math.MaxUint64 - 3, math.MaxUint64} {
		for _, body := range [][]byte{{8, 18}, {1, 8, 1, 18}, {2, 8, 18, 0b10}, {8, 4, 10}, nil} {
			checkPieces(t, p, api.ErrForm, func(q *pieces) { q.numbers[1], q.body = codec, body })
		}
		// It is asked behind the places, and the ends.
		checkPieces(t, p, api.ErrForm, func(q *pieces) { q.numbers[1], q.places = codec, []byte{0b1010} })
		checkPieces(t, p, api.ErrShort, func(q *pieces) { q.numbers[1], q.numbers[2], q.max, q.body = codec, 17, nil, nil })
		checkPieces(t, p, api.ErrShort, func(q *pieces) { q.numbers[1], q.max, q.body = codec, nil, nil })
		checkPieces(t, p, api.ErrForm, func(q *pieces) { *q = pieces{numbers: [4]uint64{1, codec, 0, 0}} })
	}
	// Steps are such of whole numbers alone.
	for kind := uint64(2); kind < 4; kind++ {
		checkPieces(t, p, api.ErrForm, func(q *pieces) { *q = pieces{numbers: [4]uint64{kind, 4, 0, 0}} })
		checkPieces(t, p, api.OK, func(q *pieces) { *q = pieces{numbers: [4]uint64{kind, 1, 0, 0}} })
		checkPieces(t, p, api.ErrForm, func(q *pieces) { *q = pieces{numbers: [4]uint64{kind, 4, 1, 1}, places: []byte{1}} })
	}
}

// P11.3: a segment of a codec that Make would not have chosen is the one that Make makes with that codec: it is taken.
func TestOfACodecThatIsNotTheLeast(t *testing.T) {
	for _, kind := range kinds() {
		for _, l := range columns(kind) {
			least, _ := seg.Make(l, kind, 0)
			for _, codec := range codecsOf(kind) {
				body, _ := wantBody(slices.DeleteFunc(slices.Clone(l), isNull), kind, codec)
				s := clone(least)
				s.Codec, s.Body = codec, body
				got, rest, e := seg.Of(block(held(s)))
				if !areSame(got, s) || len(rest) != 0 || e != api.OK {
					t.Fatal(kind, codec, len(l), got.Codec, e)
				}
				// By another codec's number the same bytes are no such segment, but where they are its own, too.
				for _, other := range codecsOf(kind) {
					s.Codec = other
					checkOf(t, block(held(s)))
				}
			}
		}
	}
}

// P11.3: what stands behind the block is told as it is; segments one behind the other are read in turn.
func TestOfTellsWhatIsBehind(t *testing.T) {
	for _, kind := range kinds() {
		var all []byte
		var want []seg.Seg
		for k, l := range columns(kind) {
			codecs := append(codecsOf(kind), 0)
			s, e := seg.Make(l, kind, codecs[k%len(codecs)])
			if e != api.OK {
				t.Fatal(kind, k, e)
			}
			b := seg.Bytes(s)
			for _, behind := range [][]byte{nil, {0}, {1, 2}, bytes.Repeat([]byte{255}, 300)} {
				got, rest, e := seg.Of(slices.Concat(b, behind))
				if !areSame(got, s) || !bytes.Equal(rest, behind) || e != api.OK {
					t.Fatal(kind, k, got.Zone, len(rest), e)
				}
			}
			all = append(all, b...)
			want = append(want, s)
		}
		left := all
		for k, s := range want {
			got, rest, e := seg.Of(left)
			if !areSame(got, s) || e != api.OK {
				t.Fatal(kind, k, got.Zone, e)
			}
			left = rest
		}
		if len(left) != 0 {
			t.Error(kind, len(left))
		}
		checkRefused(t, left, api.ErrShort)
	}
}

// P11.3: a segment's bytes, cut anywhere ahead of their end, end too early.
func TestOfWhatIsCut(t *testing.T) {
	for _, kind := range kinds() {
		for k, l := range columns(kind) {
			for _, codec := range codecsOf(kind) {
				s, _ := seg.Make(l, kind, codec)
				b := seg.Bytes(s)
				step := 1
				if len(b) > 100 {
					step += len(b) / (k%20 + 5)
				}
				for at := 0; at < len(b); at += step {
					checkRefused(t, b[:at:at], api.ErrShort)
					// What stands behind the cut is not read, though there is room for it.
					checkRefused(t, b[:at], api.ErrShort)
				}
				checkRefused(t, b[:len(b)-1], api.ErrShort)
			}
		}
	}
}

// P11.3: what a block has, cut and with a new sum, is an error of some piece, or of the Body.
func TestOfCutBytesWithTheirSum(t *testing.T) {
	for _, kind := range kinds() {
		for k, l := range columns(kind) {
			for _, codec := range codecsOf(kind) {
				s, _ := seg.Make(l, kind, codec)
				b := held(s)
				step := 1
				if len(b) > 60 {
					step += len(b) / (k%7 + 5)
				}
				for at := 0; at < len(b); at += step {
					if checkOf(t, block(b[:at])) {
						t.Fatal(kind, codec, len(l), at)
					}
				}
				for _, behind := range []byte{0, 1, 128, 255} {
					checkHeld(t, append(slices.Clone(b), behind), api.ErrForm)
				}
			}
		}
	}
}

// aLongSeg are the bytes that the block of a segment of texts, by Plain, has, just so many.
func aLongSeg(t *testing.T, size int) []byte {
	t.Helper()
	const each, least = 800, 130
	l := []api.Val{text(strings.Repeat("b", least)), text("c")}
	l = append(slices.Repeat([]api.Val{text(strings.Repeat("a", each))}, size/(each+2)-3), l...)
	missing := size - len(held(wantPlain(l)))
	for missing > each+2 {
		l = slices.Insert(l, 0, l[0])
		missing -= each + 2
	}
	// The one that is neither Min nor Max is as long as fills what is missing.
	l[len(l)-2] = text(strings.Repeat("b", least+missing))
	b := held(wantPlain(l))
	if len(b) != size {
		t.Fatal("no such segment", len(b), size)
	}
	return b
}

func wantPlain(l []api.Val) seg.Seg {
	return seg.Seg{Kind: api.Text, Codec: api.Plain, Zone: wantZone(l), Body: laidValues(l...)}
}

// P11.3: a block of 2^20 bytes is the longest that is read; one of more is ErrRange, though Make and Bytes have such.
func TestOfLongBlocks(t *testing.T) {
	for _, c := range []struct {
		size int
		e    api.Errno
	}{{blockMost - 1, api.OK}, {blockMost, api.OK}, {blockMost + 1, api.ErrRange}, {blockMost + 100, api.ErrRange}} {
		b := aLongSeg(t, c.size)
		s, e := wantHeld(b)
		if e != api.OK || !bytes.Equal(seg.Bytes(s), block(b)) {
			t.Fatal(c.size, e)
		}
		got, rest, e := seg.Of(append(block(b), 7))
		if e != c.e {
			t.Error(c.size, e)
		}
		if c.e == api.OK && (!areSame(got, s) || !bytes.Equal(rest, []byte{7})) {
			t.Error(c.size, got.Zone, len(rest))
		}
		if c.e != api.OK && (!isZero(got) || len(rest) != 0) {
			t.Error(c.size, got.Zone, len(rest))
		}
	}
	// However long, an error of the number, of its size, comes ahead of the sum, and of there being too few bytes.
	checkRefused(t, append(leb.Put(blockMost+1), 1, 2, 3), api.ErrRange)
	checkRefused(t, append(leb.Put(blockMost), 1, 2, 3), api.ErrShort)
	checkRefused(t, append(leb.Put(blockMost), make([]byte, blockMost+4)...), api.ErrCorrupt)
	checkHeld(t, make([]byte, blockMost), api.ErrForm)
}

// P11.4: as many and as long values as there may be: they are made and told; Of takes the block, if it has no more than 2^20 bytes.
func TestTheMostAndLongest(t *testing.T) {
	long := strings.Repeat("\xFF", api.MaxText-4)
	var longest []api.Val
	for i := range api.MaxRows {
		longest = append(longest, text(long+string(binary.BigEndian.AppendUint32(nil, uint32(i*4099)))))
	}
	for _, l := range [][]api.Val{longest, slices.Repeat(longest[:1], api.MaxRows), slices.Repeat(longest[:2], api.MaxRows/2), longest[:900], append(longest[1:], api.Val{})} {
		for _, codec := range append(codecsOf(api.Text), 0) {
			checkMake(t, l, api.Text, codec)
			s, _ := seg.Make(l, api.Text, codec)
			if b := held(s); len(b) > blockMost {
				checkRefused(t, seg.Bytes(s), api.ErrRange)
			}
		}
	}
}

// P11.3: Vals of segments that were changed: the codec's error, or Join's, or ErrArg, if there is no such codec.
func TestVals(t *testing.T) {
	l := []api.Val{num(4), {}, num(9)}
	for _, codec := range codecsOf(api.Int) {
		s, _ := seg.Make(l, api.Int, codec)
		for k, c := range []struct {
			change func(*seg.Seg)
			e      api.Errno
		}{
			{func(s *seg.Seg) {}, api.OK},
			{func(s *seg.Seg) { s.Zone.Min, s.Zone.Max = num(1), text("x") }, api.OK}, // they aren't asked
			{func(s *seg.Seg) { s.Body = s.Body[:len(s.Body)-1] }, api.ErrShort},
			{func(s *seg.Seg) { s.Body = append(s.Body[:len(s.Body):len(s.Body)], 0) }, api.ErrForm},
			{func(s *seg.Seg) { s.Body = nil }, api.ErrShort},
			{func(s *seg.Seg) { s.Nulls = []bool{false, false, false} }, api.ErrForm},
			{func(s *seg.Seg) { s.Nulls = []bool{true, false, true} }, api.ErrForm},
			{func(s *seg.Seg) { s.Codec = 0 }, api.ErrArg},
			{func(s *seg.Seg) { s.Codec = 5 }, api.ErrArg},
			{func(s *seg.Seg) { s.Codec = -1 }, api.ErrArg},
			{func(s *seg.Seg) { s.Codec = math.MaxInt }, api.ErrArg},
			{func(s *seg.Seg) { s.Kind, s.Codec = api.Text, api.Delta }, api.ErrArg},
			{func(s *seg.Seg) { s.Kind, s.Codec = api.Null, api.Plain }, api.ErrArg},
			{func(s *seg.Seg) { s.Kind, s.Codec = 4, api.Dict }, api.ErrArg},
		} {
			other := clone(s)
			c.change(&other)
			was := clone(other)
			got, e := other.Vals()
			if e != c.e || e == api.OK && !slices.Equal(got, l) || e != api.OK && len(got) != 0 || !areSame(other, was) {
				t.Error(codec, k, got, e, c.e)
			}
		}
	}
	if l, e := (seg.Seg{}).Vals(); len(l) != 0 || e != api.ErrArg {
		t.Error(l, e)
	}
}

// P1: Vals of segments that no call told ends, as the codecs do.
func TestValsOfAnySeg(t *testing.T) {
	for kind := -1; kind < 5; kind++ {
		for codec := -1; codec < 6; codec++ {
			for _, rows := range []int{0, 1, 3, 4096, 4097, -1, math.MaxInt, math.MinInt} {
				for _, nulls := range []int{0, 1, 3, -1, math.MaxInt, math.MinInt} {
					for _, places := range [][]bool{nil, {true}, {false, false, true}} {
						s := seg.Seg{Kind: kind, Codec: codec, Zone: api.Zone{Rows: rows, Nulls: nulls}, Nulls: places, Body: []byte{2, 0, 2}}
						want, wantE := wantVals(s)
						if l, e := s.Vals(); !slices.Equal(l, want) || e != wantE {
							t.Error(s, l, e)
						}
					}
				}
			}
		}
	}
}

// P11.4: with one bit turned anywhere, or some within 32 behind one another, a block is refused.
func TestTurnedBitsAreRefused(t *testing.T) {
	for _, kind := range kinds() {
		for k, l := range columns(kind) {
			codecs := append(codecsOf(kind), 0)
			s, _ := seg.Make(l, kind, codecs[k%len(codecs)])
			b := append(seg.Bytes(s), 1, 2, 3, 4, 5)
			ahead := len(leb.Put(uint64(len(held(s))))) // bytes of the block's number
			size := (len(b) - 5) * 8
			step := 1
			if size > 1000 {
				step += size / (k%50 + 50)
			}
			for bit := 0; bit < size; bit += step {
				other := bytes.Clone(b)
				other[bit/8] ^= 1 << (bit % 8)
				got, rest, e := seg.Of(other)
				if e == api.OK || !isZero(got) || len(rest) != 0 || bit >= ahead*8 && e != api.ErrCorrupt {
					t.Fatal(kind, k, bit, got.Zone, e)
				}
				if bit < ahead*8 {
					continue
				}
				for _, n := range mixed(uint64(bit), 2, 1<<31) {
					for i := range 31 {
						if at := bit + 1 + i; n>>i&1 == 1 && at < size {
							other[at/8] ^= 1 << (at % 8)
						}
					}
					if got, _, e := seg.Of(other); e != api.ErrCorrupt || !isZero(got) {
						t.Fatal(kind, k, bit, n, e)
					}
					other = bytes.Clone(b)
					other[bit/8] ^= 1 << (bit % 8)
				}
			}
		}
	}
}

// P11.3 and P11.4: with one byte of what a block has changed, and a new sum, it is taken or refused as the chapter says.
func TestOfChangedBytes(t *testing.T) {
	for _, kind := range kinds() {
		taken := 0
		for _, many := range []int{1, 2, 5} {
			for _, each := range []int{1, 2, 9} {
				few := values(kind)[:many]
				for _, codec := range codecsOf(kind) {
					s, _ := seg.Make(withNull(append(slices.Clone(few), some(few, 7)...), each), kind, codec)
					b := held(s)
					for i := range b {
						for _, change := range []byte{1, 2, 3, 4, 16, 64, 128, 255} {
							other := bytes.Clone(b)
							other[i] ^= change
							if checkOf(t, block(other)) {
								taken++
							}
						}
					}
				}
			}
		}
		if taken < 50 {
			t.Error("too few were taken to tell", kind, taken)
		}
	}
}

// P2: any bytes are taken or refused; with a sum of their own some are taken.
func TestOfAnyBytes(t *testing.T) {
	taken := 0
	for size := range 24 {
		for seed := range uint64(2000) {
			b := make([]byte, size)
			for i, n := range mixed(seed*100+uint64(size), size, 1<<20) {
				// Small bytes more often, so that there are numbers and texts that end.
				b[i] = byte(n >> 12 >> (seed % 8))
			}
			checkOf(t, b)
			if checkOf(t, block(b)) {
				taken++
			}
		}
	}
	// Heads that may be, and any few bytes behind them.
	for digits := range 4 * 4 * 4 * 4 * 8 * 8 * 2 {
		b := []byte{byte(digits%3 + 1), byte(digits>>2%4 + 1), byte(digits >> 4 % 4), byte(digits >> 6 % 2), byte(digits >> 7 % 4), byte(digits >> 9 % 8), byte(digits >> 12)}
		for size := 4; size <= len(b); size++ {
			if checkOf(t, block(b[:size])) {
				taken++
			}
		}
	}
	if taken < 100 {
		t.Error("too few were taken to tell", taken)
	}
}

// R4: what is told hangs on what was handed in alone, not on a map's order.
func TestAnswersAreTheSameAgain(t *testing.T) {
	for _, kind := range kinds() {
		for _, l := range columns(kind)[:30] {
			want, _ := seg.Make(l, kind, 0)
			for range 20 {
				s, e := seg.Make(l, kind, 0)
				if !areSame(s, want) || e != api.OK {
					t.Fatal(kind, len(l), s.Codec, want.Codec, e)
				}
			}
		}
	}
}

// R3: what Body, Make and Bytes tell is the caller's own, and what was handed in stays.
func TestSegsAreTheCallersOwn(t *testing.T) {
	for _, kind := range kinds() {
		for k, l := range columns(kind) {
			codec := append(codecsOf(kind), 0)[k%(len(codecsOf(kind))+1)]
			l = slices.Clone(l)
			was := slices.Clone(l)
			want, _ := wantMake(l, kind, codec)
			s, _ := seg.Make(l, kind, codec)
			again, _ := seg.Make(l, kind, codec)
			body, _ := seg.Body(slices.DeleteFunc(slices.Clone(l), isNull), kind, again.Codec)
			laid := seg.Bytes(again)
			change(s)
			if !slices.Equal(l, was) || !areSame(again, want) || !bytes.Equal(body, want.Body) || !bytes.Equal(laid, block(held(want))) {
				t.Fatal(kind, k, "an answer is shared")
			}
			for i := range l {
				l[i] = text("changed")
			}
			other := bytes.Clone(laid)
			for i := range other {
				other[i]++
			}
			for i := range body {
				body[i]++
			}
			if !areSame(again, want) || !bytes.Equal(laid, block(held(want))) {
				t.Fatal(kind, k, "an answer has changed")
			}
			for i := range laid {
				laid[i]++
			}
			if !areSame(again, want) || !bytes.Equal(seg.Bytes(again), block(held(want))) {
				t.Fatal(kind, k, "what was handed in has changed")
			}
		}
	}
}

// change turns all round that a segment's lists have, and what there is room for behind them.
func change(s seg.Seg) {
	for i := range s.Nulls {
		s.Nulls[i] = !s.Nulls[i]
	}
	for i := range s.Body {
		s.Body[i]++
	}
	_, _ = append(s.Nulls, true, false), append(s.Body, 1, 2, 3, 4, 5)
}

// R3: what Of and Vals tell is the caller's own: neither the bytes nor another answer change it, nor it them.
func TestOfIsTheCallersOwn(t *testing.T) {
	for _, kind := range kinds() {
		for k, l := range columns(kind) {
			codec := append(codecsOf(kind), 0)[k%(len(codecsOf(kind))+1)]
			want, _ := wantMake(l, kind, codec)
			b := append(block(held(want)), 1, 2, 3, 4) // with room behind it, which an answer must not reach
			was := bytes.Clone(b)
			s, rest, _ := seg.Of(b[: len(b)-1 : len(b)])
			again, sameRest, _ := seg.Of(b[: len(b)-1 : len(b)])
			change(s)
			if !bytes.Equal(rest, []byte{1, 2, 3}) || !bytes.Equal(b, was) {
				t.Fatal(kind, k, "an answer is shared")
			}
			for i := range rest {
				rest[i] = 99
			}
			_ = append(rest, 1)
			vals, _ := again.Vals()
			sameVals, _ := again.Vals()
			for i := range vals {
				vals[i] = text("changed")
			}
			_ = append(vals, text("more"))
			for i := range b {
				b[i]++
			}
			if !areSame(again, want) || !bytes.Equal(sameRest, []byte{1, 2, 3}) || !slices.Equal(sameVals, l) {
				t.Fatal(kind, k, "an answer has changed")
			}
			change(again)
			if !slices.Equal(sameVals, l) {
				t.Fatal(kind, k, "an answer has changed")
			}
		}
	}
}

// P1 and P11.1 to P11.4: any bytes, and any values, of any kind, by any codec.
func FuzzSeg(f *testing.F) {
	f.Add([]byte{1, 2, 4, 0, 10, 10, 4, 10}, 1, 0, int64(5), "")
	f.Add([]byte{3, 1, 3, 1, 2, 1, 'a', 1, 'b', 1, 'b', 1, 'a'}, 3, 3, int64(0), "ab")
	f.Add([]byte{2, 3, 1, 0, 128, 0, 0, 0, 0, 0, 0, 0, 128, 0, 0, 0, 0, 0, 0, 0, 1, 128, 0, 0, 0, 0, 0, 0, 0}, 2, 2, int64(1)<<62, "x")
	f.Add([]byte{1, 4, 2, 1, 1, 6, 6, 6, 0}, 1, 4, int64(-7), "")
	f.Add([]byte{4, 0, 129, 32, 0}, 0, 5, int64(1), "\xFF")
	f.Fuzz(func(t *testing.T, b []byte, kind, codec int, i int64, s string) {
		checkOf(t, b)
		checkOf(t, block(b))
		checkOf(t, append(block(b), b...))
		var mixture, ints, floats, some []api.Val
		for _, c := range b[:min(len(b), 400)] {
			mixture = append(mixture, api.Val{Kind: int(c % 5), I: i * int64(c&8), S: s[:min(len(s), int(c>>4))]})
			if c%16 == 15 {
				ints, floats, some = append(ints, api.Val{}), append(floats, api.Val{}), append(some, api.Val{})
			}
			ints = append(ints, num(i+int64(c&3)))
			floats = append(floats, val.Clean(ofBits(uint64(i)+uint64(c&3))))
			some = append(some, text(s[:min(len(s), int(c&3))]))
		}
		one := []api.Val{{Kind: kind, I: i, S: s}}
		for _, l := range [][]api.Val{mixture, ints, floats, some, one} {
			if z := seg.Zone(l); z != wantZone(l) {
				t.Fatal(l, z)
			}
			for _, k := range append(kinds(), kind) {
				for _, c := range []int{0, 1, 2, 3, 4, codec} {
					checkMake(t, l, k, c)
					want, wantE := wantBody(l, k, c)
					if b, e := seg.Body(l, k, c); !bytes.Equal(b, want) || e != wantE {
						t.Fatal(l, k, c, b, e)
					}
				}
			}
		}
		made := seg.Seg{Kind: kind, Codec: codec, Zone: api.Zone{Rows: kind + len(b), Nulls: codec, Min: one[0], Max: num(i)}, Body: b}
		for _, c := range b[:min(len(b), 40)] {
			made.Nulls = append(made.Nulls, c%2 == 1)
		}
		want, wantE := wantVals(made)
		if l, e := made.Vals(); !slices.Equal(l, want) || e != wantE {
			t.Fatal(made, l, e)
		}
		if laid := seg.Bytes(made); !bytes.Equal(laid, block(held(made))) {
			t.Fatal(made, laid)
		}
		checkOf(t, seg.Bytes(made))
	})
}
