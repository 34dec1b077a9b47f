package delta_test

import (
	"bytes"
	"encoding/binary"
	"math"
	"math/big"
	"slices"
	"strings"
	"testing"

	"astragal/api"
	"astragal/bits"
	"astragal/delta"
	"astragal/leb"
	"astragal/plain"
	"astragal/val"
)

const theNaN = 0x7FF8000000000000

func num(n int64) api.Val { return api.Val{Kind: api.Int, I: n} }

func ofBits(bits uint64) api.Val { return api.Val{Kind: api.Float, I: int64(bits)} }

func float(f float64) api.Val { return ofBits(math.Float64bits(f)) }

func text(s string) api.Val { return api.Val{Kind: api.Text, S: s} }

// nums are one for each number.
func nums(l ...int64) []api.Val {
	var all []api.Val
	for _, n := range l {
		all = append(all, num(n))
	}
	return all
}

// mixed are numbers below most that look like chance, and are the same each time.
func mixed(seed uint64, n, most int) []int {
	l := make([]int, n)
	for i := range l {
		seed = seed*6364136223846793005 + 1442695040888963407
		l[i] = int(seed>>33) % most
	}
	return l
}

// anyInts are n numbers of all sizes, of either sign, in no order.
func anyInts(seed uint64, n int) []int64 {
	l := make([]int64, n)
	for i, s := range mixed(seed, n, 64) {
		seed = seed*2862933555777941757 + 3037000493
		l[i] = int64(seed) >> s
	}
	return l
}

// edges are whole numbers of which many are at an end of something.
func edges() []int64 {
	return []int64{5, 7, 0, -1, 1, 2, -2, 63, 64, -64, -65, 300, 8191, 8192, 1 << 31, 1<<32 + 5, 1<<62 - 1, 1 << 62, -1 << 62, -1<<62 - 1, math.MinInt64, math.MinInt64 + 1, math.MaxInt64 - 1, math.MaxInt64}
}

// climbing are n numbers, each of which is by more than the one ahead.
func climbing(n int, from, by int64) []int64 {
	l := make([]int64, n)
	for i := range l {
		l[i] = from + int64(i)*by
	}
	return l
}

// columns are lists of whole numbers: none, one, two, alike, rising, falling, going round, and as many as there may be.
func columns() [][]api.Val {
	l := [][]api.Val{nil, {}, nums(3, 5, 4), nums(edges()...), nums(math.MinInt64, math.MaxInt64, math.MinInt64, math.MaxInt64)}
	for _, a := range edges() {
		l = append(l, nums(a), nums(a, a), nums(a, a, a), nums(a, a, a, a, a, 5), nums(slices.Repeat([]int64{a}, 129)...))
		for _, b := range edges() {
			l = append(l, nums(a, b), nums(a, b, a), nums(0, a, b, b))
		}
	}
	for n := range 40 {
		l = append(l, nums(climbing(n, -7, 1)...), nums(climbing(n, 100, -3)...), nums(climbing(n, math.MaxInt64-20, 4)...), nums(climbing(n, 0, 1<<62)...), nums(anyInts(uint64(n), n)...))
	}
	for _, n := range []int{255, 256, 257, api.MaxRows - 1, api.MaxRows} {
		l = append(l, nums(climbing(n, -1000, 1)...), nums(climbing(n, 5, 0)...), nums(climbing(n, 1000, -1)...), nums(climbing(n, math.MinInt64, math.MaxInt64)...), nums(anyInts(uint64(n), n)...))
	}
	return l
}

// parts are values of any Kind, I and S, many of which are alike, and no two the same.
func parts() []api.Val {
	var l []api.Val
	for _, kind := range []int{api.Text, 4, -1, api.Float, api.Null, 256, 257, 1<<32 + 1, math.MaxInt, math.MinInt, api.Int} {
		for _, i := range []int64{0, 1, -1, 1 << 32, 256, theNaN, theNaN | 1, math.MaxInt64, math.MinInt64} {
			for _, s := range []string{"x", "", "X", "xx", "\x00", strings.Repeat("x", api.MaxText+1)} {
				l = append(l, api.Val{Kind: kind, I: i, S: s})
			}
		}
	}
	return l
}

// wantStep is P10.1's words on a step, with numbers that have no end: n modulo 2^64, from -2^63 on, and 2n of it, or -2n-1.
func wantStep(ahead, n int64) uint64 {
	round, half := new(big.Int).Lsh(big.NewInt(1), 64), new(big.Int).Lsh(big.NewInt(1), 63)
	d := new(big.Int).Sub(big.NewInt(n), big.NewInt(ahead))
	d.Add(d, half).Mod(d, round).Sub(d, half)
	if d.Sign() < 0 {
		d.Mul(d, big.NewInt(-2)).Sub(d, big.NewInt(1))
	} else {
		d.Mul(d, big.NewInt(2))
	}
	return d.Uint64()
}

func wantSteps(l []api.Val) []uint64 {
	var steps []uint64
	for i := range l {
		if i > 0 {
			steps = append(steps, wantStep(l[i-1].I, l[i].I))
		}
	}
	return steps
}

// wantSorted is P10.1's words on Sorted, from the other end.
func wantSorted(l []api.Val) bool {
	for i := len(l) - 1; i > 0; i-- {
		if val.Compare(l[i], l[i-1]) == -1 {
			return false
		}
	}
	return true
}

// wantWidth is the least width that all have room in.
func wantWidth(l []uint64) int {
	w := 0
	for _, n := range l {
		for n>>w != 0 {
			w++
		}
	}
	return w
}

// laidSteps are the bits of steps, by the words of chapter 1.
func laidSteps(steps []uint64, width int) []byte {
	b := make([]byte, (len(steps)*width+7)/8)
	for i, s := range steps {
		for bit := range width {
			at := i*width + bit
			b[at/8] |= byte(s>>bit&1) << (at % 8)
		}
	}
	return b
}

// laidAs are the bytes of a first number, and of steps with a width, whatever they are.
func laidAs(first int64, width int, steps []uint64) []byte {
	return slices.Concat(binary.AppendVarint(nil, first), binary.AppendUvarint(nil, uint64(width)), laidSteps(steps, width))
}

// laid are the bytes of a column.
func laid(l []api.Val) []byte {
	if len(l) == 0 {
		return nil
	}
	steps := wantSteps(l)
	return laidAs(l[0].I, wantWidth(steps), steps)
}

// wantOfCheck is P7.1's words of whole numbers, one by one.
func wantOfCheck(l []api.Val) api.Errno {
	if len(l) > 4096 {
		return api.ErrRange
	}
	if slices.ContainsFunc(l, func(v api.Val) bool { return v.Kind != 1 }) {
		return api.ErrKind
	}
	if slices.ContainsFunc(l, func(v api.Val) bool { return v.S != "" }) {
		return api.ErrArg
	}
	return api.OK
}

// wantOf is P10.2's words on what is read, one by one.
func wantOf(b []byte, n int) ([]api.Val, api.Errno) {
	if n < 0 || n > 4096 {
		return nil, api.ErrRange
	}
	if n == 0 && len(b) != 0 {
		return nil, api.ErrForm
	}
	if n == 0 {
		return nil, api.OK
	}
	first, firstSize, e := leb.Get(b)
	if e != api.OK {
		return nil, e
	}
	width, widthSize, e := leb.Get(b[firstSize:])
	if e != api.OK {
		return nil, e
	}
	if width > 64 {
		return nil, api.ErrForm
	}
	steps, e := bits.Unpack(b[firstSize+widthSize:], n-1, int(width))
	if e != api.OK {
		return nil, e
	}
	if uint64(wantWidth(steps)) != width {
		return nil, api.ErrForm
	}
	l := nums(leb.Zag(first))
	for i, s := range steps {
		l = append(l, num(int64(uint64(l[i].I)+uint64(leb.Zag(s)))))
	}
	return l, api.OK
}

// checkSteps holds Steps and Sorted against the chapter's words.
func checkSteps(t *testing.T, l []api.Val) {
	t.Helper()
	was := slices.Clone(l)
	steps := delta.Steps(l)
	if want := wantSteps(l); !slices.Equal(steps, want) || len(steps) != max(len(l)-1, 0) {
		t.Fatal(len(l), steps, want)
	}
	if is := delta.Sorted(l); is != wantSorted(l) || is != slices.IsSortedFunc(l, val.Compare) {
		t.Fatal(len(l), is)
	}
	if !slices.Equal(l, was) {
		t.Fatal("what was handed in has changed")
	}
}

// checkBytes holds Bytes against an error that is known, which plain has, too.
func checkBytes(t *testing.T, l []api.Val, want api.Errno) {
	t.Helper()
	was := slices.Clone(l)
	b, e := delta.Bytes(l)
	if e != want || plain.Check(l, api.Int) != want || want != api.OK && len(b) != 0 || !slices.Equal(l, was) {
		t.Error(len(l), len(b), e, want)
	}
	if e == api.OK && !slices.Equal(b, laid(l)) {
		t.Error(len(l), b, laid(l))
	}
}

// checkOf holds what is read against the chapter's words, and tells whether it was taken.
func checkOf(t *testing.T, b []byte, n int) bool {
	t.Helper()
	was := slices.Clone(b)
	want, wantE := wantOf(b, n)
	l, e := delta.Of(b, n)
	if !slices.Equal(l, want) || e != wantE || !slices.Equal(b, was) {
		t.Fatal(len(b), b[:min(len(b), 30)], n, len(l), e, wantE)
	}
	if e != api.OK {
		return false
	}
	if again, e := delta.Bytes(l); len(l) != n || !slices.Equal(again, b) || e != api.OK {
		t.Fatal(len(b), b[:min(len(b), 30)], n, len(l), len(again), e)
	}
	return true
}

// checkRefused holds Of against an error that is known.
func checkRefused(t *testing.T, b []byte, n int, want api.Errno) {
	t.Helper()
	was := slices.Clone(b)
	if l, e := delta.Of(b, n); len(l) != 0 || e != want || !slices.Equal(b, was) {
		t.Error(len(b), b[:min(len(b), 30)], n, len(l), e, want)
	}
	if _, e := wantOf(b, n); e != want {
		t.Error("the test's own words say", e, "of", b[:min(len(b), 30)], n)
	}
}

// The example of the chapter.
func TestTheExample(t *testing.T) {
	l := nums(3, 5, 4)
	if steps := delta.Steps(l); !slices.Equal(steps, []uint64{4, 1}) {
		t.Error(steps)
	}
	b, e := delta.Bytes(l)
	if !slices.Equal(b, []byte{6, 3, 0b001_100}) || e != api.OK {
		t.Error(b, e)
	}
	if got, e := delta.Of(b, 3); !slices.Equal(got, l) || e != api.OK {
		t.Error(got, e)
	}
	if delta.Sorted(l) || !delta.Sorted(l[:2]) || delta.Sorted(l[1:]) {
		t.Error("Sorted")
	}
}

// P10.1: steps, one by one: such that pass 2^63 go round.
func TestSteps(t *testing.T) {
	const least, most, all = math.MinInt64, math.MaxInt64, math.MaxUint64
	for k, c := range []struct {
		l    []int64
		want []uint64
	}{
		{nil, nil},
		{[]int64{}, nil},
		{[]int64{5}, nil},
		{[]int64{least}, nil},
		{[]int64{5, 5}, []uint64{0}},
		{[]int64{5, 6}, []uint64{2}},
		{[]int64{6, 5}, []uint64{1}},
		{[]int64{0, 1, 3, 6, 10}, []uint64{2, 4, 6, 8}},
		{[]int64{10, 6, 3, 1, 0}, []uint64{7, 5, 3, 1}},
		{[]int64{-5, 5, -5}, []uint64{20, 19}},
		{[]int64{0, most}, []uint64{all - 1}},
		{[]int64{most, 0}, []uint64{all - 2}},
		{[]int64{0, least}, []uint64{all}},
		{[]int64{least, 0}, []uint64{all}}, // 2^63 is -2^63
		{[]int64{-1, most}, []uint64{all}}, // as here
		{[]int64{least, -1}, []uint64{all - 1}},
		{[]int64{-2, most}, []uint64{all - 2}}, // 2^63+1 is -2^63+1
		{[]int64{1, least}, []uint64{all - 1}}, // -2^63-1 is 2^63-1
		{[]int64{least, most}, []uint64{1}},
		{[]int64{most, least}, []uint64{2}},
		{[]int64{least, most, least}, []uint64{1, 2}},
		{[]int64{least + 1, most}, []uint64{3}},
		{[]int64{most - 1, least + 1}, []uint64{6}},
		{[]int64{-1 << 62, 1 << 62}, []uint64{all}},
		{[]int64{1 << 62, -1 << 62}, []uint64{all}},
		{[]int64{0, 1 << 62, least, -1 << 62, 0}, []uint64{1 << 63, 1 << 63, 1 << 63, 1 << 63}},
	} {
		if steps := delta.Steps(nums(c.l...)); !slices.Equal(steps, c.want) {
			t.Error(k, c.l, steps, c.want)
		}
		checkSteps(t, nums(c.l...))
	}
	for _, l := range columns() {
		checkSteps(t, l)
	}
}

// P10.1: Steps asks for no more than I, Sorted for what val.Compare tells, of values of any Kind, I and S.
func TestStepsAndSortedOfAnyValues(t *testing.T) {
	all := parts()
	checkSteps(t, all)
	for _, a := range all {
		for _, b := range all {
			if steps := delta.Steps([]api.Val{a, b}); len(steps) != 1 || steps[0] != wantStep(a.I, b.I) {
				t.Fatal(a, b, steps)
			}
			if is := delta.Sorted([]api.Val{a, b}); is != (val.Compare(a, b) <= 0) {
				t.Fatal(a, b, is)
			}
		}
		checkSteps(t, []api.Val{a})
		checkSteps(t, []api.Val{a, a, all[0], a})
	}
	rising := slices.SortedFunc(slices.Values(all), val.Compare)
	checkSteps(t, rising)
	if !delta.Sorted(rising) {
		t.Error("what was sorted doesn't rise")
	}
	slices.Reverse(rising)
	checkSteps(t, rising)
}

// P10.1: what rises, and what doesn't; such that are alike rise.
func TestSorted(t *testing.T) {
	inf := math.Inf(1)
	for k, c := range []struct {
		l    []api.Val
		want bool
	}{
		{nil, true},
		{[]api.Val{}, true},
		{nums(5), true},
		{[]api.Val{{Kind: 9, I: -1, S: "x"}}, true},
		{nums(5, 5), true},
		{nums(5, 6), true},
		{nums(6, 5), false},
		{nums(1, 1, 2), true},
		{nums(1, 2, 2), true},
		{nums(1, 3, 2), false},
		{nums(2, 1, 3), false},
		{nums(2, 1, 1), false},
		{nums(5, 5, 5, 5), true},
		{nums(5, 5, 5, 4), false},
		{nums(1, 2, 3, 1), false},
		{nums(math.MinInt64, math.MaxInt64), true},
		{nums(math.MaxInt64, math.MinInt64), false},
		{nums(-1, 0, 1), true},
		{nums(-1, -2), false},
		{nums(0, -1), false},
		{[]api.Val{float(math.Copysign(0, -1)), float(0)}, true},
		{[]api.Val{float(0), float(math.Copysign(0, -1))}, false},
		{[]api.Val{float(inf), ofBits(theNaN), ofBits(theNaN)}, true},
		{[]api.Val{ofBits(theNaN), float(inf)}, false},
		{[]api.Val{float(-2), float(-1), float(1)}, true},
		{[]api.Val{float(-1), float(-2)}, false},
		{[]api.Val{text(""), text("\x00"), text("a"), text("ab"), text("b"), text("\xFF")}, true},
		{[]api.Val{text("ab"), text("a")}, false},
		{[]api.Val{text("a"), text("B")}, false},
		{[]api.Val{{}, num(-5), float(-9), text("")}, true}, // Null, Int, Float, Text
		{[]api.Val{num(-5), {}}, false},
		{[]api.Val{float(9), num(10)}, false},
		{[]api.Val{text(""), float(9)}, false},
		{[]api.Val{{I: 5}, {I: 1, S: "x"}, {}}, true}, // all Null
		{[]api.Val{{Kind: 4, I: 5}, {Kind: 4, I: 1}}, true},
		{[]api.Val{{Kind: -1}, {}, {Kind: 4}, {Kind: math.MaxInt}}, true},
		{[]api.Val{{}, {Kind: -1}}, false},
		{[]api.Val{{Kind: 1 << 32}, num(0)}, false},
		{[]api.Val{{Kind: api.Int, I: 5, S: "b"}, {Kind: api.Int, I: 5, S: "a"}}, true},
		{[]api.Val{{Kind: api.Text, I: 5, S: "b"}, {Kind: api.Text, I: 4, S: "b"}}, true},
	} {
		if is := delta.Sorted(c.l); is != c.want {
			t.Error(k, c.l, is)
		}
		checkSteps(t, c.l)
	}
}

// P10.1: what rises but for one place is found there: at the head, in the middle, at the end, of few and of many.
func TestSortedButForOnePlace(t *testing.T) {
	for _, n := range []int{2, 3, 4, 5, 8, 9, 100, 4096, 4097, 10000} {
		for _, by := range []int64{0, 1, 3} {
			rising := nums(climbing(n, -50, by)...)
			if !delta.Sorted(rising) {
				t.Fatal(n, by)
			}
			for _, at := range []int{1, 2, n / 3, n / 2, n - 2, n - 1} {
				if at < 1 || at >= n {
					continue
				}
				fallen := slices.Clone(rising)
				fallen[at].I = fallen[at-1].I - 1
				if delta.Sorted(fallen) {
					t.Fatal(n, by, at)
				}
				if by > 0 && (!delta.Sorted(fallen[:at]) || !delta.Sorted(fallen[at:])) {
					t.Fatal(n, by, at, "there is one place")
				}
			}
		}
		falling := nums(climbing(n, 50, -1)...)
		if delta.Sorted(falling) {
			t.Fatal(n)
		}
	}
}

// P10.1: of all short lists of few numbers.
func TestStepsAndSortedOfFew(t *testing.T) {
	few := []int64{-1, 0, 1, 5}
	for digits := range 4 * 4 * 4 * 4 * 4 {
		l := make([]int64, 5)
		for i := range l {
			l[i] = few[digits>>(2*i)%4]
		}
		for n := range 6 {
			if is := delta.Sorted(nums(l[:n]...)); is != slices.IsSorted(l[:n]) {
				t.Fatal(l[:n], is)
			}
			checkSteps(t, nums(l[:n]...))
		}
	}
}

// P10.2: the bytes of columns, byte by byte.
func TestBytes(t *testing.T) {
	const least, most = math.MinInt64, math.MaxInt64
	full := bytes.Repeat([]byte{255}, 9)
	for k, c := range []struct {
		l    []int64
		want []byte
	}{
		{nil, nil},
		{[]int64{}, nil},
		{[]int64{0}, []byte{0, 0}},
		{[]int64{-1}, []byte{1, 0}},
		{[]int64{64}, []byte{128, 1, 0}},
		{[]int64{most}, slices.Concat([]byte{254}, full[:8], []byte{1, 0})},
		{[]int64{least}, slices.Concat(full, []byte{1, 0})},
		{[]int64{7, 7, 7}, []byte{14, 0}},
		{[]int64{5, 4}, []byte{10, 1, 1}},
		{[]int64{5, 6}, []byte{10, 2, 2}},
		{[]int64{5, 5, 4, 5}, []byte{10, 2, 0b10_01_00}},
		{[]int64{1, 2, 3, 4, 5}, []byte{2, 2, 0b10_10_10_10}},
		{[]int64{5, 4, 3, 2, 1, 0, -1, -2, -3, -4}, []byte{10, 1, 255, 1}},
		{[]int64{0, 127, 0}, []byte{0, 8, 254, 253}},
		{[]int64{0, 128}, []byte{0, 9, 0, 1}},
		{[]int64{0, least}, slices.Concat([]byte{0, 64}, full[:8])},
		{[]int64{0, most}, slices.Concat([]byte{0, 64, 254}, full[:7])},
		{[]int64{0, 1 << 61}, []byte{0, 63, 0, 0, 0, 0, 0, 0, 0, 0x40}},
		{[]int64{0, -1 << 62}, slices.Concat([]byte{0, 63}, full[:7], []byte{0x7F})},
		{[]int64{most, least}, slices.Concat([]byte{254}, full[:8], []byte{1, 2, 2})},
		{[]int64{least, most}, slices.Concat(full, []byte{1, 1, 1})},
	} {
		b, e := delta.Bytes(nums(c.l...))
		if !slices.Equal(b, c.want) || e != api.OK {
			t.Error(k, c.l, b, e)
		}
		if got, e := delta.Of(c.want, len(c.l)); !slices.Equal(got, nums(c.l...)) || e != api.OK {
			t.Error(k, c.l, got, e)
		}
	}
	for _, l := range columns() {
		checkBytes(t, l, api.OK)
	}
}

// P10.2: plain's error: too many ahead of another kind, another kind ahead of what may not be.
func TestBytesRefuses(t *testing.T) {
	mayNot := []api.Val{{Kind: api.Int, S: "x"}, {Kind: api.Int, I: 5, S: "\x00"}, {Kind: api.Int, I: -1, S: strings.Repeat("x", api.MaxText+1)}}
	others := []api.Val{{}, {I: 1}, {S: "x"}, float(1), ofBits(theNaN | 1), text(""), text("5"), {Kind: api.Text, I: 5}}
	for _, kind := range []int{-1, -2, -256, math.MinInt, 4, 5, 255, 256, 257, 1<<32 + 1, math.MaxInt} {
		others = append(others, api.Val{Kind: kind}, api.Val{Kind: kind, I: 5}, api.Val{Kind: kind, S: "x"})
	}
	most, above := nums(climbing(api.MaxRows, 0, 3)...), nums(climbing(api.MaxRows+1, 0, 3)...)
	checkBytes(t, most, api.OK)
	checkBytes(t, above, api.ErrRange)
	checkBytes(t, slices.Repeat(most, 3), api.ErrRange)
	put := func(l []api.Val, at int, v api.Val) []api.Val {
		l = slices.Clone(l)
		l[at] = v
		return l
	}
	for _, l := range [][]api.Val{nums(5), nums(5, 5), nums(3, 5, 4), nums(edges()...), most} {
		for _, at := range []int{0, len(l) / 2, len(l) - 1} {
			for _, v := range mayNot {
				checkBytes(t, put(l, at, v), api.ErrArg)
				for _, o := range others[:3] {
					checkBytes(t, append(put(l, at, v), o)[max(len(l)-4000, 0):], api.ErrKind)
					checkBytes(t, slices.Concat([]api.Val{o}, put(l, at, v)[:min(len(l), 4000)]), api.ErrKind)
				}
			}
			for _, v := range others {
				checkBytes(t, put(l, at, v), api.ErrKind)
			}
		}
	}
	for _, v := range append(others, mayNot...) {
		checkBytes(t, put(above, 0, v), api.ErrRange)
		checkBytes(t, put(above, api.MaxRows, v), api.ErrRange)
	}
	checkBytes(t, slices.Repeat([]api.Val{{}}, api.MaxRows+1), api.ErrRange)
}

// stepsOf are n steps of which one, at a place, has just so many bits, and the others have no more.
func stepsOf(width, n, at int) []uint64 {
	steps := make([]uint64, n)
	for i := range steps {
		steps[i] = uint64(i) * 0x9E3779B97F4A7C15 & (1<<width - 1)
		if width > 0 {
			steps[i] >>= 1
		}
	}
	if n > 0 && width > 0 {
		steps[at] |= 1 << (width - 1)
	}
	return steps
}

// P10.2: each width is taken where a step needs it, wherever that stands, and refused where none does.
func TestOfWidths(t *testing.T) {
	for width := range 65 {
		for _, n := range []int{1, 2, 3, 7, 8, 9} {
			for at := range n {
				steps := stepsOf(width, n, at)
				for _, first := range []int64{0, -1, 300, math.MinInt64, math.MaxInt64} {
					b := laidAs(first, width, steps)
					if !checkOf(t, b, n+1) {
						t.Fatal(width, n, at, first)
					}
					l, _ := delta.Of(b, n+1)
					if l[0] != num(first) || !slices.Equal(delta.Steps(l), steps) {
						t.Fatal(width, n, at, first, l)
					}
					checkBytes(t, l, api.OK)
				}
				for wider := width + 1; wider < 65; wider++ {
					checkRefused(t, laidAs(5, wider, steps), n+1, api.ErrForm)
				}
			}
		}
	}
	for _, width := range []int{0, 1, 2, 63, 64} {
		n := api.MaxRows - 1
		for _, at := range []int{0, n / 2, n - 1} {
			steps := stepsOf(width, n, at)
			if !checkOf(t, laidAs(5, width, steps), api.MaxRows) {
				t.Fatal(width, at)
			}
			if width < 64 {
				checkRefused(t, laidAs(5, width+1, steps), api.MaxRows, api.ErrForm)
			}
		}
	}
	for width := 1; width < 65; width++ { // without a step there is no other width than 0
		checkRefused(t, []byte{6, byte(width)}, 1, api.ErrForm)
		checkRefused(t, laidAs(6, width, make([]uint64, 9)), 10, api.ErrForm)
	}
}

// P10.2: n of 0, with bytes and without, of the most, and such that may not be, whatever the bytes are.
func TestOfHowMany(t *testing.T) {
	for _, b := range [][]byte{nil, {}} {
		if l, e := delta.Of(b, 0); len(l) != 0 || e != api.OK {
			t.Error(l, e)
		}
		for _, n := range []int{1, 2, api.MaxRows} {
			checkRefused(t, b, n, api.ErrShort)
		}
	}
	all := [][]byte{{0}, {0, 0}, {6, 3, 0x0C}, {128}, {128, 0}, {6, 65}, bytes.Repeat([]byte{255}, 10), make([]byte, 9000)}
	for _, b := range all {
		checkRefused(t, b, 0, api.ErrForm)
	}
	for _, b := range append(all, nil, []byte{}, laid(nums(climbing(api.MaxRows+1, 0, 1)...))) {
		for _, n := range []int{-1, -2, -4096, math.MinInt, math.MinInt + 1, -1 << 32, api.MaxRows + 1, api.MaxRows + 2, 1 << 20, 1<<20 + 1, 1 << 32, 1<<32 + 1, math.MaxInt} {
			checkRefused(t, b, n, api.ErrRange)
		}
	}
	for _, n := range []int{1, 2, 3, 256, api.MaxRows - 1, api.MaxRows} {
		if l, e := delta.Of([]byte{10, 0}, n); !slices.Equal(l, slices.Repeat(nums(5), n)) || e != api.OK {
			t.Error(n, len(l), e)
		}
	}
}

// P10.2: the first number, and the second one: cut, of more bytes than will do, too great; the first one's error is ahead.
func TestOfNumbers(t *testing.T) {
	full := bytes.Repeat([]byte{255}, 9)
	eights := bytes.Repeat([]byte{128}, 9)
	faults := []struct {
		b []byte
		e api.Errno
	}{
		{nil, api.ErrShort},
		{[]byte{128}, api.ErrShort},
		{[]byte{255, 255}, api.ErrShort},
		{full, api.ErrShort},
		{slices.Concat(full, []byte{129}), api.ErrForm},
		{[]byte{128, 0}, api.ErrForm},
		{[]byte{134, 0}, api.ErrForm},
		{[]byte{131, 128, 0}, api.ErrForm},
		{slices.Concat(eights, []byte{0}), api.ErrForm},
		{slices.Concat(full, []byte{2}), api.ErrForm},
		{slices.Concat(eights, []byte{127}), api.ErrForm},
		{bytes.Repeat([]byte{255}, 10), api.ErrForm},
		{bytes.Repeat([]byte{128}, 30), api.ErrForm},
	}
	for _, n := range []int{1, 2, 3, 9, api.MaxRows} {
		for _, f := range faults {
			checkRefused(t, f.b, n, f.e)
			for _, first := range [][]byte{{0}, {6}, {172, 2}, slices.Concat(full, []byte{1})} {
				checkRefused(t, slices.Concat(first, f.b), n, f.e)
			}
			if f.e != api.ErrForm {
				continue
			}
			for _, other := range faults { // whatever comes behind it
				checkRefused(t, slices.Concat(f.b, other.b), n, api.ErrForm)
			}
			checkRefused(t, slices.Concat(f.b, []byte{0}), n, api.ErrForm)
			checkRefused(t, slices.Concat([]byte{6}, f.b, []byte{1}), n, api.ErrForm)
		}
		for _, width := range []uint64{65, 66, 127, 128, 255, 256, 256 + 1, 1 << 16, 1 << 31, 1 << 32, 1<<32 + 1, 1<<32 + 64, 1<<63 - 1, 1 << 63, 1<<63 + 1, math.MaxUint64} {
			for _, behind := range []int{0, 1, 2, 9, 8 * 4095} {
				b := slices.Concat([]byte{6}, binary.AppendUvarint(nil, width), bytes.Repeat([]byte{1}, behind))
				checkRefused(t, b, n, api.ErrForm)
			}
		}
	}
}

// P10.2: the first number is read whole, of as many bytes as there may be.
func TestOfFirst(t *testing.T) {
	for _, first := range edges() {
		b := slices.Concat(binary.AppendVarint(nil, first), []byte{2, 0b01_10})
		if l, e := delta.Of(b, 3); !slices.Equal(l, nums(first, first+1, first)) || e != api.OK {
			t.Error(first, l, e)
		}
		b = slices.Concat(binary.AppendVarint(nil, first), []byte{0})
		if l, e := delta.Of(b, 1); !slices.Equal(l, nums(first)) || e != api.OK {
			t.Error(first, l, e)
		}
	}
}

// P10.2: the bits: too few bytes, too many, and with bits behind the last one.
func TestOfBits(t *testing.T) {
	for k, c := range []struct {
		b []byte
		n int
		e api.Errno
	}{
		{[]byte{6, 3}, 3, api.ErrShort}, // too few
		{[]byte{6, 3, 0x0C}, 4, api.ErrShort},
		{[]byte{6, 1}, 2, api.ErrShort},
		{[]byte{6, 1, 255}, 10, api.ErrShort},
		{[]byte{6, 64, 255, 255, 255, 255, 255, 255, 255}, 2, api.ErrShort},
		{[]byte{6, 1, 0}, 10, api.ErrShort}, // ahead of a width that is another one
		{[]byte{6, 64}, api.MaxRows, api.ErrShort},

		{[]byte{6, 3, 0x0C, 0}, 3, api.ErrForm}, // too many
		{[]byte{6, 3, 0x0C, 0x0C}, 3, api.ErrForm},
		{[]byte{6, 0, 0}, 1, api.ErrForm},
		{[]byte{6, 0, 0}, 2, api.ErrForm},
		{[]byte{6, 0, 1}, 9, api.ErrForm},
		{[]byte{6, 0, 0}, api.MaxRows, api.ErrForm},
		{[]byte{6, 1, 255, 0}, 9, api.ErrForm},
		{[]byte{6, 1, 255}, 1, api.ErrForm},
		{[]byte{6, 64, 255, 255, 255, 255, 255, 255, 255, 255, 0}, 2, api.ErrForm},

		{[]byte{6, 3, 0x4C}, 3, api.ErrForm}, // bits behind the last one
		{[]byte{6, 3, 0x8C}, 3, api.ErrForm},
		{[]byte{6, 1, 0b11}, 2, api.ErrForm},
		{[]byte{6, 1, 255}, 8, api.ErrForm},
		{[]byte{6, 1, 255, 0b11}, 10, api.ErrForm},

		{[]byte{6, 4, 0x14}, 3, api.ErrForm}, // a width that is greater than that of the steps
		{[]byte{6, 1, 0}, 2, api.ErrForm},
		{[]byte{6, 2, 0b01_01_01_01}, 5, api.ErrForm},
		{[]byte{6, 64, 255, 255, 255, 255, 255, 255, 255, 127}, 2, api.ErrForm},

		{[]byte{6, 1, 255}, 9, api.OK}, // what is right
		{[]byte{6, 1, 0b1000}, 5, api.OK},
		{[]byte{6, 3, 0b100_000}, 3, api.OK},
		{[]byte{6, 64, 0, 0, 0, 0, 0, 0, 0, 128}, 2, api.OK},
	} {
		if l, e := delta.Of(c.b, c.n); e != c.e || e != api.OK && len(l) != 0 {
			t.Error(k, c.b, c.n, l, e, c.e)
		}
		checkOf(t, c.b, c.n)
	}
}

// P10.3: what was laid down is read; of another n, it is taken or refused as the chapter says.
func TestBytesAreRead(t *testing.T) {
	for _, l := range columns() {
		b, e := delta.Bytes(l)
		if e != api.OK {
			t.Fatal(len(l), e)
		}
		if got, e := delta.Of(b, len(l)); !slices.Equal(got, l) || e != api.OK {
			t.Fatal(len(l), len(got), e)
		}
		for _, n := range []int{0, 1, len(l) - 2, len(l) - 1, len(l) + 1, len(l) + 8, api.MaxRows} {
			checkOf(t, b, n)
		}
	}
}

// P10.2: a column's bytes, cut anywhere ahead of their end, end too early; with a byte more behind them something is wrong.
func TestOfWhatIsCut(t *testing.T) {
	for _, l := range columns() {
		b := laid(l)
		step := 1 + len(b)/100
		for at := 0; at < len(b); at += step {
			checkRefused(t, b[:at:at], len(l), api.ErrShort)
			// What stands behind the cut is not read, though there is room for it.
			checkRefused(t, b[:at], len(l), api.ErrShort)
		}
		if len(b) > 0 {
			checkRefused(t, b[:len(b)-1], len(l), api.ErrShort)
		}
		for _, behind := range []byte{0, 1, 128, 255} {
			checkRefused(t, append(slices.Clone(b), behind), len(l), api.ErrForm)
		}
	}
}

// P10.3: numbers that are as far from each other have steps alike, and so the same bytes behind the first one's.
func TestStepsOfMovedNumbers(t *testing.T) {
	for _, l := range columns() {
		steps, b := delta.Steps(l), laid(l)
		for _, by := range []int64{1, -1, 1000, 1 << 62, math.MinInt64, math.MaxInt64} {
			moved := slices.Clone(l)
			for i := range moved {
				moved[i].I += by
			}
			if !slices.Equal(delta.Steps(moved), steps) {
				t.Fatal(len(l), by)
			}
			if len(l) == 0 {
				continue
			}
			other, e := delta.Bytes(moved)
			_, size := binary.Uvarint(b)
			_, otherSize := binary.Uvarint(other)
			if !slices.Equal(other[otherSize:], b[size:]) || e != api.OK {
				t.Fatal(len(l), by, e)
			}
		}
	}
}

// P10.3: no two columns have one column's bytes.
func TestBytesAreOneColumns(t *testing.T) {
	type column struct{ a, b, c int64 }
	told := map[string]column{}
	for _, a := range edges() {
		for _, b := range edges() {
			for _, c := range edges() {
				laid, _ := delta.Bytes(nums(a, b, c))
				if other, is := told[string(laid)]; is {
					t.Fatal(other, a, b, c)
				}
				told[string(laid)] = column{a, b, c}
			}
		}
	}
}

// P2 and P10.3: any bytes are taken or refused; what is taken is laid down as the very bytes.
func TestOfAnyBytes(t *testing.T) {
	taken := 0
	for size := range 24 {
		for seed := range uint64(400) {
			b := make([]byte, size)
			for i, n := range mixed(seed*100+uint64(size), size, 1<<20) {
				// Small bytes more often, so that there are numbers and widths that end.
				b[i] = byte(n >> 12 >> (seed % 7))
			}
			for n := -1; n < size*8+2; n++ {
				if checkOf(t, b, n) {
					taken++
				}
			}
		}
	}
	if taken < 1000 {
		t.Error("too few were taken to tell", taken)
	}
}

// P10.2: of one, two and three bytes all that differ where it matters.
func TestOfFewBytes(t *testing.T) {
	taken := 0
	for pair := range 1 << 16 {
		b := []byte{byte(pair), byte(pair >> 8)}
		for n := range 4 {
			checkOf(t, b, n)
			checkOf(t, b[:1], n)
		}
		// A first number of one byte, each width, and each byte of steps.
		b = []byte{12, b[0] % 10, b[1]}
		for n := range 10 {
			if checkOf(t, b, n) {
				taken++
			}
		}
	}
	if taken < 1000 {
		t.Error("too few were taken to tell", taken)
	}
}

// P10.3: a column's bytes with one of them changed are taken or refused as the chapter says.
func TestOfChangedBytes(t *testing.T) {
	for _, l := range [][]api.Val{nums(5), nums(3, 5, 4), nums(5, 5, 5), nums(climbing(20, -7, 1)...), nums(climbing(17, 300, -2)...), nums(edges()...), nums(anyInts(3, 9)...)} {
		b := laid(l)
		for i := range b {
			for change := 1; change < 256; change++ {
				other := slices.Clone(b)
				other[i] ^= byte(change)
				for n := max(len(l)-2, 0); n < len(l)+3; n++ {
					checkOf(t, other, n)
				}
			}
		}
	}
}

// P1: as many as there may be with the widest steps, and far more bytes and values than that.
func TestTheMost(t *testing.T) {
	l := nums(climbing(api.MaxRows, 0, math.MinInt64)...)
	b, e := delta.Bytes(l)
	if len(b) != 2+8*(api.MaxRows-1) || b[1] != 64 || e != api.OK {
		t.Fatal(len(b), e)
	}
	if got, e := delta.Of(b, api.MaxRows); !slices.Equal(got, l) || e != api.OK {
		t.Error(len(got), e)
	}
	checkRefused(t, append(b, make([]byte, 1<<22)...), api.MaxRows, api.ErrForm)
	many := nums(climbing(1<<18, math.MinInt64, 1<<45)...)
	if steps := delta.Steps(many); len(steps) != len(many)-1 || slices.Min(steps) != 1<<46 || slices.Max(steps) != 1<<46 || !delta.Sorted(many) {
		t.Error(len(steps))
	}
	many[len(many)-1] = many[0]
	if steps := delta.Steps(many); steps[len(many)-2] != wantStep(many[len(many)-2].I, math.MinInt64) || delta.Sorted(many) {
		t.Error(len(steps))
	}
}

// R3: what Steps tells is the caller's own, and what was handed in stays.
func TestStepsAreTheCallersOwn(t *testing.T) {
	for k, l := range columns() {
		l = append(slices.Clone(l), num(7))
		was := slices.Clone(l)
		steps, again := delta.Steps(l[:len(l)-1]), delta.Steps(l[:len(l)-1])
		for i := range steps {
			steps[i] = 7777
		}
		_ = append(steps, 7777)
		if !slices.Equal(l, was) || !slices.Equal(again, wantSteps(was[:len(was)-1])) {
			t.Fatal(k, "an answer is shared")
		}
		for i := range l {
			l[i] = api.Val{}
		}
		if !slices.Equal(again, wantSteps(was[:len(was)-1])) {
			t.Fatal(k, "an answer has changed")
		}
	}
}

// R3: what Bytes tells is the caller's own, and what was handed in stays.
func TestBytesAreTheCallersOwn(t *testing.T) {
	for k, l := range columns() {
		was := slices.Clone(l)
		b, _ := delta.Bytes(l)
		again, _ := delta.Bytes(l)
		for i := range b {
			b[i]++
		}
		_ = append(b, 1)
		if !slices.Equal(l, was) {
			t.Fatal(k, "what was handed in has changed")
		}
		for i := range l {
			l[i] = api.Val{}
		}
		if !slices.Equal(again, laid(was)) {
			t.Fatal(k, "an answer has changed")
		}
	}
}

// R3: what Of tells is the caller's own: neither the bytes nor another answer change it, nor it them.
func TestOfIsTheCallersOwn(t *testing.T) {
	for k, want := range columns() {
		b := append(laid(want), 7) // with room behind it, which an answer must not reach
		was := slices.Clone(b)
		got, _ := delta.Of(b[:len(b)-1], len(want))
		again, _ := delta.Of(b[:len(b)-1], len(want))
		for i := range got {
			got[i] = text("changed")
		}
		_ = append(got, text("more"))
		if !slices.Equal(b, was) {
			t.Fatal(k, "what was handed in has changed")
		}
		for i := range b {
			b[i]++
		}
		if !slices.Equal(again, want) {
			t.Fatal(k, "an answer has changed")
		}
	}
}

// R2 and R4: nil and empty are the same, and what is told hangs on what was handed in alone.
func TestNilIsEmpty(t *testing.T) {
	for _, l := range [][]api.Val{nil, {}, make([]api.Val, 0, 5)} {
		b, e := delta.Bytes(l)
		if steps := delta.Steps(l); len(steps) != 0 || !delta.Sorted(l) || len(b) != 0 || e != api.OK {
			t.Error(steps, b, e)
		}
	}
	for range 3 {
		for _, b := range [][]byte{nil, {}, make([]byte, 0, 5)} {
			if l, e := delta.Of(b, 0); len(l) != 0 || e != api.OK {
				t.Error(l, e)
			}
			checkRefused(t, b, 1, api.ErrShort)
			checkRefused(t, b, -1, api.ErrRange)
		}
		checkOf(t, []byte{6, 3, 0x0C}, 3)
		checkBytes(t, nums(3, 5, 4), api.OK)
		checkBytes(t, []api.Val{{}}, api.ErrKind)
	}
}

// P1 and P10.1 to P10.3: any bytes and any values, of any kind and number.
func FuzzDelta(f *testing.F) {
	f.Add([]byte{6, 3, 0x0C}, 3, 1, int64(3), "")
	f.Add([]byte{6, 65}, 1, 1, int64(0), "x")
	f.Add([]byte{255, 255, 255, 255, 255, 255, 255, 255, 255, 1, 1, 1}, 2, 2, int64(math.MinInt64), "")
	f.Add([]byte{128, 0}, -1, 0, int64(-1), "ab")
	f.Add([]byte{0}, 0, 4, int64(1)<<62, "")
	f.Add([]byte{10, 0}, 4097, 3, int64(1), "")
	f.Fuzz(func(t *testing.T, b []byte, n, kind int, i int64, s string) {
		checkOf(t, b, n)
		for n := range 9 {
			checkOf(t, b, n)
			checkOf(t, b, len(b)+n)
		}
		var mixture, ints, wide []api.Val
		for k, c := range b {
			mixture = append(mixture, api.Val{Kind: int(c % 5), I: i * int64(c&8), S: s[:min(len(s), int(c>>4))]})
			ints = append(ints, num(i+int64(int8(c))))
			wide = append(wide, num(i*int64(k+1)<<(c&63)))
		}
		one := []api.Val{{Kind: kind, I: i, S: s}}
		for _, l := range [][]api.Val{mixture, ints, wide, one, append(ints, one...)} {
			checkSteps(t, l)
			e := wantOfCheck(l)
			checkBytes(t, l, e)
			if e == api.OK && !checkOf(t, laid(l), len(l)) {
				t.Fatal(l)
			}
		}
	})
}
