package rle_test

import (
	"bytes"
	"encoding/binary"
	"math"
	"slices"
	"strings"
	"testing"

	"astragal/api"
	"astragal/leb"
	"astragal/plain"
	"astragal/rle"
	"astragal/val"
)

const theNaN = 0x7FF8000000000000

func num(n int64) api.Val { return api.Val{Kind: api.Int, I: n} }

func ofBits(bits uint64) api.Val { return api.Val{Kind: api.Float, I: int64(bits)} }

func float(f float64) api.Val { return ofBits(math.Float64bits(f)) }

func text(s string) api.Val { return api.Val{Kind: api.Text, S: s} }

// kinds are those that a column may have.
func kinds() []int {
	return []int{api.Int, api.Float, api.Text}
}

// noKinds are numbers below 1 and above 3.
func noKinds() []int {
	return []int{api.Null, -1, -2, -3, -256, math.MinInt, 4, 5, 7, 255, 256, 257, 259, 1<<32 + 1, math.MaxInt}
}

// mixed are numbers below most that look like chance, and are the same each time.
func mixed(seed uint64, n, most int) []int {
	l := make([]int, n)
	for i := range l {
		seed = seed*6364136223846793005 + 1442695040888963407
		l[i] = int(seed>>33) % most
	}
	return l
}

// values are such of a kind that may be, with their edges; no two are the same.
func values(kind int) []api.Val {
	var l []api.Val
	switch kind {
	case api.Int:
		for _, n := range []int64{5, 7, 0, -1, 1, 2, 63, 64, -64, -65, 300, 8191, 8192, 1 << 31, 1<<32 + 5, math.MinInt64, math.MinInt64 + 1, math.MaxInt64} {
			l = append(l, num(n))
		}
	case api.Float:
		for _, f := range []float64{0, math.Copysign(0, -1), 1, -1, 2.5, -2.5, math.SmallestNonzeroFloat64, math.MaxFloat64, -math.MaxFloat64, math.Inf(1), math.Inf(-1)} {
			l = append(l, float(f))
		}
		l = append(l, ofBits(theNaN))
	case api.Text:
		for _, s := range []string{"", "a", "A", "b", "\x00", "\x00\x00", "\xFF", "ab", "é", "two words"} {
			l = append(l, text(s))
		}
		for _, size := range []int{127, 128, 1000, api.MaxText - 1, api.MaxText} {
			l = append(l, text(strings.Repeat("x", size)), text(strings.Repeat("\xFF", size)))
		}
	}
	return l
}

// wrong are values of a kind that may not be.
func wrong(kind int) []api.Val {
	long := strings.Repeat("x", api.MaxText+1)
	switch kind {
	case api.Int:
		return []api.Val{{Kind: kind, S: "x"}, {Kind: kind, I: 5, S: "\x00"}, {Kind: kind, I: -1, S: long}}
	case api.Float:
		return []api.Val{{Kind: kind, S: "x"}, {Kind: kind, I: theNaN, S: "x"}, ofBits(theNaN | 1), ofBits(theNaN | 1<<63), ofBits(0x7FF0000000000001), ofBits(math.MaxUint64)}
	}
	return []api.Val{{Kind: kind, I: 1}, {Kind: kind, I: -1, S: "a"}, text(long), {Kind: kind, I: 1, S: long}}
}

// others are values of any other kind than that, such that may be, and such that may not.
func others(kind int) []api.Val {
	l := []api.Val{{}, {I: 1}, {S: "x"}}
	for _, k := range kinds() {
		if k != kind {
			l = append(l, values(k)[:3]...)
			l = append(l, wrong(k)...)
		}
	}
	for _, k := range noKinds() {
		l = append(l, api.Val{Kind: k}, api.Val{Kind: k, I: 5}, api.Val{Kind: k, S: "x"})
	}
	return l
}

// parts are values of any Kind, I and S, each of which is in two, one or none of these like another one.
func parts() []api.Val {
	var l []api.Val
	for _, kind := range []int{api.Null, api.Int, api.Float, api.Text, 4, -1, 256, 257, 1<<32 + 1, math.MinInt, math.MaxInt} {
		for _, i := range []int64{0, 1, -1, 1 << 32, 256, theNaN, theNaN | 1, math.MinInt64} {
			for _, s := range []string{"", "x", "X", "xx", "\x00", "x\x00", strings.Repeat("x", api.MaxText+1)} {
				l = append(l, api.Val{Kind: kind, I: i, S: s})
			}
		}
	}
	return l
}

// inRuns are n values of a list, each of them one to most times, one behind the other.
func inRuns(of []api.Val, n, most int) []api.Val {
	var l []api.Val
	for i, more := range mixed(uint64(n*100+most), n, most) {
		times := min(1+more, n-len(l))
		l = append(l, slices.Repeat([]api.Val{of[(i*5+n)%len(of)]}, times)...)
	}
	return l
}

// unlike are n values of a kind, no two of which are the same.
func unlike(n, kind int) []api.Val {
	l := make([]api.Val, n)
	for i := range l {
		switch kind {
		case api.Int:
			l[i] = num(int64(i - n/2))
		case api.Float:
			l[i] = float(float64(i) / 8)
		case api.Text:
			l[i] = text(strings.Repeat("t", i%5) + string(binary.AppendUvarint(nil, uint64(i))))
		}
	}
	return l
}

// columns are lists of values of a kind, in runs of many lengths, up to the greatest.
func columns(kind int) [][]api.Val {
	all := values(kind)
	l := [][]api.Val{nil, {}, all, slices.Concat(all, all), slices.Repeat([]api.Val{all[0], all[1]}, 20)}
	for _, v := range all {
		l = append(l, []api.Val{v}, []api.Val{v, v}, []api.Val{v, v, all[0], all[1], v}, slices.Repeat([]api.Val{v}, 127), slices.Repeat([]api.Val{v}, 128))
	}
	for n := range 40 {
		l = append(l, inRuns(all, n, 1), inRuns(all, n, 3), inRuns(all[:2], n, 9))
	}
	for _, n := range []int{api.MaxRows - 1, api.MaxRows} {
		l = append(l, inRuns(all, n, 1), inRuns(all, n, 40), inRuns(all, n, 1000), unlike(n, kind), slices.Repeat(all[:1], n))
	}
	return l
}

// same is the word of DOC.md: Kind, I and S are.
func same(a, b api.Val) bool {
	return a.Kind == b.Kind && a.I == b.I && a.S == b.S
}

// wantRuns is P8.1's words: from each place that isn't told yet as many as may be.
func wantRuns(l []api.Val) []rle.Run {
	var runs []rle.Run
	for at := 0; at < len(l); {
		end := at
		for end < len(l) && same(l[at], l[end]) {
			end++
		}
		runs = append(runs, rle.Run{N: end - at, V: l[at]})
		at = end
	}
	return runs
}

// wantSpread is P8.1's words on Spread.
func wantSpread(runs []rle.Run) []api.Val {
	var l []api.Val
	for _, r := range runs {
		for i := 0; i < r.N && len(l) < 4096; i++ {
			l = append(l, r.V)
		}
	}
	return l
}

// wantOfCheck is P7.1's words, one by one.
func wantOfCheck(l []api.Val, kind int) api.Errno {
	if kind < 1 || kind > 3 {
		return api.ErrArg
	}
	if len(l) > 4096 {
		return api.ErrRange
	}
	if slices.ContainsFunc(l, func(v api.Val) bool { return v.Kind != kind }) {
		return api.ErrKind
	}
	if slices.ContainsFunc(l, func(v api.Val) bool { return !val.May(v) }) {
		return api.ErrArg
	}
	return api.OK
}

// laid are the bytes of runs of values that may be, by the words of chapters 2, 4, 5 and 8.
func laid(runs []rle.Run) []byte {
	var b []byte
	for _, r := range runs {
		b = binary.AppendUvarint(b, uint64(r.N))
		switch r.V.Kind {
		case api.Int:
			b = binary.AppendVarint(b, r.V.I)
		case api.Float:
			key := uint64(r.V.I) ^ 1<<63
			if r.V.I < 0 {
				key = ^uint64(r.V.I)
			}
			b = binary.BigEndian.AppendUint64(b, key)
		case api.Text:
			b = append(binary.AppendUvarint(b, uint64(len(r.V.S))), r.V.S...)
		}
	}
	return b
}

// wantToRuns is P8.2's words on what is read, one by one, with val.Of of all that is left.
func wantToRuns(b []byte, n, kind int) ([]rle.Run, api.Errno) {
	if kind < 1 || kind > 3 {
		return nil, api.ErrArg
	}
	if n < 0 || n > 4096 {
		return nil, api.ErrRange
	}
	var runs []rle.Run
	for told := 0; told < n; {
		many, size, e := leb.Get(b)
		if e != api.OK {
			return nil, e
		}
		if many == 0 || many > uint64(n-told) {
			return nil, api.ErrForm
		}
		v, rest, e := val.Of(b[size:], kind)
		if e != api.OK {
			return nil, e
		}
		if told > 0 && same(runs[len(runs)-1].V, v) {
			return nil, api.ErrForm
		}
		runs = append(runs, rle.Run{N: int(many), V: v})
		told += int(many)
		b = rest
	}
	if len(b) > 0 {
		return nil, api.ErrForm
	}
	return runs, api.OK
}

// checkRuns holds Runs against the chapter's words, and against what follows.
func checkRuns(t *testing.T, l []api.Val) {
	t.Helper()
	was := slices.Clone(l)
	runs := rle.Runs(l)
	if !slices.Equal(runs, wantRuns(l)) || !slices.Equal(l, was) {
		t.Fatal(len(l), runs)
	}
	sum := 0
	for i, r := range runs {
		if r.N < 1 || i > 0 && same(runs[i-1].V, r.V) {
			t.Fatal(i, r)
		}
		sum += r.N
	}
	if sum != len(l) {
		t.Fatal(sum, len(l))
	}
	if got := rle.Spread(runs); !slices.Equal(got, l[:min(len(l), 4096)]) {
		t.Fatal(len(l), len(got))
	}
}

// checkSpread holds Spread against the chapter's words.
func checkSpread(t *testing.T, runs []rle.Run) {
	t.Helper()
	was := slices.Clone(runs)
	if l := rle.Spread(runs); !slices.Equal(l, wantSpread(runs)) || !slices.Equal(runs, was) {
		t.Fatal(runs, len(l))
	}
}

// checkBytes holds Bytes against an error that is known, which plain has, too.
func checkBytes(t *testing.T, l []api.Val, kind int, want api.Errno) {
	t.Helper()
	was := slices.Clone(l)
	b, e := rle.Bytes(l, kind)
	if e != want || plain.Check(l, kind) != want || want != api.OK && len(b) != 0 || !slices.Equal(l, was) {
		t.Error(len(l), kind, len(b), e, want)
	}
	if e == api.OK && !slices.Equal(b, laid(wantRuns(l))) {
		t.Error(len(l), kind, len(b))
	}
}

// checkOf holds what is read against the chapter's words, and tells whether it was taken.
func checkOf(t *testing.T, b []byte, n, kind int) bool {
	t.Helper()
	was := slices.Clone(b)
	want, wantE := wantToRuns(b, n, kind)
	runs, e := rle.ToRuns(b, n, kind)
	if !slices.Equal(runs, want) || e != wantE {
		t.Fatal(b, n, kind, len(runs), e, wantE)
	}
	l, e := rle.Of(b, n, kind)
	if !slices.Equal(l, wantSpread(want)) || e != wantE || !slices.Equal(b, was) {
		t.Fatal(b, n, kind, len(l), e, wantE)
	}
	if e != api.OK {
		return false
	}
	if again, e := rle.Bytes(l, kind); len(l) != n || !slices.Equal(again, b) || e != api.OK {
		t.Fatal(b, n, kind, len(l), again, e)
	}
	if !slices.Equal(rle.Runs(l), runs) {
		t.Fatal(b, n, kind, runs)
	}
	return true
}

// checkRefused holds ToRuns and Of against an error that is known, with zero values.
func checkRefused(t *testing.T, b []byte, n, kind int, want api.Errno) {
	t.Helper()
	if runs, e := rle.ToRuns(b, n, kind); len(runs) != 0 || e != want {
		t.Error("ToRuns", len(b), n, kind, len(runs), e, want)
	}
	if l, e := rle.Of(b, n, kind); len(l) != 0 || e != want {
		t.Error("Of", len(b), n, kind, len(l), e, want)
	}
}

// P8.1: the example, and others that are known.
func TestRuns(t *testing.T) {
	five, seven, none := num(5), num(7), api.Val{}
	for k, c := range []struct {
		l    []api.Val
		want []rle.Run
	}{
		{[]api.Val{five, five, seven}, []rle.Run{{2, five}, {1, seven}}},
		{nil, nil},
		{[]api.Val{}, nil},
		{[]api.Val{five}, []rle.Run{{1, five}}},
		{[]api.Val{none}, []rle.Run{{1, none}}},
		{[]api.Val{none, none, none}, []rle.Run{{3, none}}},
		{[]api.Val{five, five, five, five}, []rle.Run{{4, five}}},
		{[]api.Val{five, seven, five, seven}, []rle.Run{{1, five}, {1, seven}, {1, five}, {1, seven}}},
		{[]api.Val{seven, five, five, seven}, []rle.Run{{1, seven}, {2, five}, {1, seven}}},
		{[]api.Val{five, five, none, none, none, five}, []rle.Run{{2, five}, {3, none}, {1, five}}},
		{[]api.Val{five, text("5"), float(5)}, []rle.Run{{1, five}, {1, text("5")}, {1, float(5)}}},
		{[]api.Val{text("a"), text("a"), text("ab")}, []rle.Run{{2, text("a")}, {1, text("ab")}}},
	} {
		if runs := rle.Runs(c.l); !slices.Equal(runs, c.want) {
			t.Error(k, runs)
		}
		if l := rle.Spread(c.want); !slices.Equal(l, c.l) {
			t.Error(k, l)
		}
	}
}

// P8.1: values that val.Compare finds alike are two runs, if they aren't the same.
func TestRunsOfWhatIsAlike(t *testing.T) {
	for k, c := range [][2]api.Val{
		{{}, {I: 1}},
		{{}, {S: "x"}},
		{{I: 1, S: "x"}, {I: 1, S: "y"}},
		{{Kind: api.Int, I: 5}, {Kind: api.Int, I: 5, S: "x"}},
		{{Kind: api.Text, S: "x"}, {Kind: api.Text, I: 1, S: "x"}},
		{float(1), {Kind: api.Float, I: float(1).I, S: "x"}},
		{{Kind: 4}, {Kind: 4, I: 1}},
		{{Kind: -1, S: "x"}, {Kind: -1}},
	} {
		if val.Compare(c[0], c[1]) != 0 {
			t.Fatal(k, "aren't alike")
		}
		if runs := rle.Runs([]api.Val{c[0], c[0], c[1]}); !slices.Equal(runs, []rle.Run{{2, c[0]}, {1, c[1]}}) {
			t.Error(k, runs)
		}
	}
	plus, minus := float(0), float(math.Copysign(0, -1))
	if runs := rle.Runs([]api.Val{plus, minus, minus}); !slices.Equal(runs, []rle.Run{{1, plus}, {2, minus}}) {
		t.Error(runs)
	}
	// NaN is the same as itself: its bits are told, not what floats say of it.
	if runs := rle.Runs([]api.Val{ofBits(theNaN), ofBits(theNaN), ofBits(theNaN | 1)}); !slices.Equal(runs, []rle.Run{{2, ofBits(theNaN)}, {1, ofBits(theNaN | 1)}}) {
		t.Error(runs)
	}
}

// P8.1: any two of any Kind, I and S: one run just if all three are the same.
func TestRunsOfAnyTwo(t *testing.T) {
	l := parts()
	for _, a := range l {
		for _, b := range l {
			// The text as other memory: it is its bytes that are the same, not where they stand.
			b.S = strings.Clone(b.S)
			runs := rle.Runs([]api.Val{a, b})
			if same(a, b) && (len(runs) != 1 || runs[0] != rle.Run{N: 2, V: a}) {
				t.Fatal(a, runs)
			}
			if !same(a, b) && (len(runs) != 2 || runs[0] != rle.Run{N: 1, V: a} || runs[1] != rle.Run{N: 1, V: b}) {
				t.Fatal(a, b, runs)
			}
		}
	}
}

// P8.1: of all columns, and of values that none may have.
func TestRunsOfAll(t *testing.T) {
	for _, kind := range kinds() {
		for _, l := range columns(kind) {
			checkRuns(t, l)
		}
		checkRuns(t, slices.Concat(others(kind), wrong(kind), wrong(kind)))
	}
	for _, most := range []int{1, 2, 5, 30} {
		checkRuns(t, inRuns(parts(), 2000, most))
	}
}

// P8.1: Runs tells of more than 4096, too.
func TestRunsOfMany(t *testing.T) {
	for _, n := range []int{4096, 4097, 5000, 70000} {
		if runs := rle.Runs(slices.Repeat([]api.Val{num(5)}, n)); !slices.Equal(runs, []rle.Run{{n, num(5)}}) {
			t.Error(n, len(runs))
		}
		checkRuns(t, unlike(n, api.Int))
		checkRuns(t, inRuns(values(api.Int), n, 6000))
	}
}

// P8.1: no value of a run whose N is below 1, and at most 4096 in all: in the first run, within one, behind several.
func TestSpread(t *testing.T) {
	five, seven, nine := num(5), num(7), num(9)
	for k, c := range []struct {
		runs []rle.Run
		want []api.Val
	}{
		{nil, nil},
		{[]rle.Run{}, nil},
		{[]rle.Run{{2, five}, {1, seven}}, []api.Val{five, five, seven}},
		{[]rle.Run{{0, five}}, nil},
		{[]rle.Run{{-1, five}}, nil},
		{[]rle.Run{{math.MinInt, five}}, nil},
		{[]rle.Run{{0, five}, {1, seven}, {-3, nine}, {2, five}, {math.MinInt, five}}, []api.Val{seven, five, five}},
		{[]rle.Run{{1, five}, {2, five}}, []api.Val{five, five, five}},
		{[]rle.Run{{1, five}, {0, seven}, {1, five}}, []api.Val{five, five}},
		{[]rle.Run{{2, api.Val{}}, {1, api.Val{Kind: 9, I: -1, S: "x"}}}, []api.Val{{}, {}, {Kind: 9, I: -1, S: "x"}}},

		{[]rle.Run{{4096, five}}, slices.Repeat([]api.Val{five}, 4096)},
		{[]rle.Run{{4097, five}}, slices.Repeat([]api.Val{five}, 4096)},
		{[]rle.Run{{math.MaxInt, five}}, slices.Repeat([]api.Val{five}, 4096)},
		{[]rle.Run{{1 << 32, five}, {math.MaxInt, seven}}, slices.Repeat([]api.Val{five}, 4096)},
		{[]rle.Run{{4096, five}, {1, seven}}, slices.Repeat([]api.Val{five}, 4096)},
		{[]rle.Run{{4095, five}, {1, seven}}, append(slices.Repeat([]api.Val{five}, 4095), seven)},
		{[]rle.Run{{4095, five}, {2, seven}}, append(slices.Repeat([]api.Val{five}, 4095), seven)},
		{[]rle.Run{{4095, five}, {0, nine}, {1, seven}, {1, nine}}, append(slices.Repeat([]api.Val{five}, 4095), seven)},
		{[]rle.Run{{1, five}, {math.MaxInt, seven}, {1, nine}}, append([]api.Val{five}, slices.Repeat([]api.Val{seven}, 4095)...)},
		{[]rle.Run{{math.MinInt, nine}, {math.MaxInt, seven}, {math.MinInt, nine}, {1, nine}}, slices.Repeat([]api.Val{seven}, 4096)},
		{[]rle.Run{{2000, five}, {2000, seven}, {2000, nine}, {2000, five}}, slices.Concat(slices.Repeat([]api.Val{five}, 2000), slices.Repeat([]api.Val{seven}, 2000), slices.Repeat([]api.Val{nine}, 96))},
	} {
		if l := rle.Spread(c.runs); !slices.Equal(l, c.want) {
			t.Error(k, len(l))
		}
	}
}

// P8.1: of runs of any N and V, few and many.
func TestSpreadOfAll(t *testing.T) {
	numbers := []int{0, 1, 2, 3, -1, -4096, math.MinInt, 7, 100, 1000, 4095, 4096, 4097, 1 << 31, 1 << 32, math.MaxInt}
	all := parts()
	for seed := range uint64(300) {
		// Small ones more often, so that there are lists that end ahead of 4096.
		below := 2 + int(seed)%(len(numbers)-1)
		var runs []rle.Run
		for i, k := range mixed(seed, int(seed%23), below) {
			runs = append(runs, rle.Run{N: numbers[k], V: all[(i*31+int(seed))%len(all)]})
		}
		checkSpread(t, runs)
	}
	for _, n := range []int{-1, 0, 1, 2} {
		var runs []rle.Run
		for _, v := range unlike(5000, api.Int) {
			runs = append(runs, rle.Run{N: n, V: v})
		}
		checkSpread(t, runs)
		checkSpread(t, append(runs, rle.Run{N: 3, V: text("last")}))
	}
}

// P8.2: bytes that are known, laid down and read.
func TestBytes(t *testing.T) {
	five := num(5)
	key := []byte{0x80, 0, 0, 0, 0, 0, 0, 0} // of 0
	long := strings.Repeat("x", 1024)
	for k, c := range []struct {
		l    []api.Val
		kind int
		want []byte
	}{
		{[]api.Val{five, five, num(7)}, api.Int, []byte{2, 10, 1, 14}},
		{[]api.Val{five, five, num(-1), five}, api.Int, []byte{2, 10, 1, 1, 1, 10}},
		{[]api.Val{five}, api.Int, []byte{1, 10}},
		{[]api.Val{num(0), num(0), num(0)}, api.Int, []byte{3, 0}},
		{[]api.Val{num(math.MinInt64), num(0)}, api.Int, []byte{1, 255, 255, 255, 255, 255, 255, 255, 255, 255, 1, 1, 0}},
		{nil, api.Int, nil},
		{[]api.Val{}, api.Int, nil},
		{nil, api.Float, nil},
		{nil, api.Text, nil},
		{slices.Repeat([]api.Val{five}, 127), api.Int, []byte{127, 10}},
		{slices.Repeat([]api.Val{five}, 128), api.Int, []byte{128, 1, 10}},
		{slices.Repeat([]api.Val{five}, 300), api.Int, []byte{172, 2, 10}},
		{slices.Repeat([]api.Val{five}, 4095), api.Int, []byte{255, 31, 10}},
		{slices.Repeat([]api.Val{five}, 4096), api.Int, []byte{128, 32, 10}},
		{[]api.Val{float(0), float(0)}, api.Float, append([]byte{2}, key...)},
		{[]api.Val{float(0), float(math.Copysign(0, -1))}, api.Float, slices.Concat([]byte{1}, key, []byte{1, 0x7F, 255, 255, 255, 255, 255, 255, 255})},
		{[]api.Val{ofBits(theNaN), ofBits(theNaN)}, api.Float, []byte{2, 0xFF, 0xF8, 0, 0, 0, 0, 0, 0}},
		{[]api.Val{text("")}, api.Text, []byte{1, 0}},
		{[]api.Val{text("ab"), text("ab"), text(""), text("c")}, api.Text, []byte{2, 2, 'a', 'b', 1, 0, 1, 1, 'c'}},
		{[]api.Val{text(long), text(long), text("y")}, api.Text, slices.Concat([]byte{2, 128, 8}, []byte(long), []byte{1, 1, 'y'})},
	} {
		if b, e := rle.Bytes(c.l, c.kind); !slices.Equal(b, c.want) || e != api.OK {
			t.Error(k, b, e)
		}
		if runs, e := rle.ToRuns(c.want, len(c.l), c.kind); !slices.Equal(runs, wantRuns(c.l)) || e != api.OK {
			t.Error(k, runs, e)
		}
		if l, e := rle.Of(c.want, len(c.l), c.kind); !slices.Equal(l, c.l) || e != api.OK {
			t.Error(k, l, e)
		}
	}
}

// P8.2: of all columns, leb.Put and val.Bytes of each run in turn, and as chapters 2, 4 and 5 spell them.
func TestBytesOfAll(t *testing.T) {
	for _, kind := range kinds() {
		for k, l := range columns(kind) {
			var want []byte
			for _, r := range wantRuns(l) {
				b, e := val.Bytes(r.V)
				if e != api.OK {
					t.Fatal(kind, k, r, e)
				}
				want = append(append(want, leb.Put(uint64(r.N))...), b...)
			}
			if b, e := rle.Bytes(l, kind); !slices.Equal(b, want) || e != api.OK {
				t.Fatal(kind, k, len(b), e)
			}
			checkBytes(t, l, kind, api.OK)
		}
	}
}

// P8.2: plain.Check's errors of the kind, and of how many there are, ahead of those of the values.
func TestBytesRefusesKindsAndRows(t *testing.T) {
	for _, kind := range noKinds() {
		for _, l := range [][]api.Val{nil, {}, {{Kind: kind}}, {num(5), num(5)}, {text("a")}, make([]api.Val, api.MaxRows+1), slices.Repeat([]api.Val{{Kind: kind}}, api.MaxRows+1)} {
			checkBytes(t, l, kind, api.ErrArg)
		}
	}
	for _, kind := range kinds() {
		for _, n := range []int{api.MaxRows + 1, 2 * api.MaxRows, 70000} {
			l := slices.Repeat(values(kind)[:1], n) // one run, but of too many
			checkBytes(t, l, kind, api.ErrRange)
			checkBytes(t, inRuns(values(kind), n, 4), kind, api.ErrRange)
			checkBytes(t, make([]api.Val, n), kind, api.ErrRange)
			l[n-1] = wrong(kind)[0]
			checkBytes(t, l, kind, api.ErrRange)
		}
	}
}

// P8.2: plain.Check's errors of the values: another kind, Null among them, ahead of one that may not be, wherever they stand.
func TestBytesRefusesValues(t *testing.T) {
	for _, kind := range kinds() {
		good := values(kind)[0]
		for _, bad := range wrong(kind) {
			for _, l := range [][]api.Val{{bad}, {bad, bad}, {good, bad}, {bad, good}, {good, good, bad, good}, append(slices.Repeat([]api.Val{good}, api.MaxRows-1), bad)} {
				checkBytes(t, l, kind, api.ErrArg)
			}
		}
		for _, other := range others(kind) {
			for _, l := range [][]api.Val{{other}, {other, other}, {good, other}, {other, good}, {good, good, other, good}, append(slices.Repeat([]api.Val{good}, api.MaxRows-1), other)} {
				checkBytes(t, l, kind, api.ErrKind)
			}
			for _, bad := range wrong(kind) {
				for _, l := range [][]api.Val{{other, bad}, {bad, other}, {good, bad, bad, good, other}} {
					checkBytes(t, l, kind, api.ErrKind)
				}
			}
		}
	}
}

// P8.2: of the number of a run: leb's errors, 0, and more than are missing.
func TestToRunsRefusesNumbers(t *testing.T) {
	nine := bytes.Repeat([]byte{255}, 9)
	great := append(slices.Clone(nine), 1) // 2^64-1
	for k, c := range []struct {
		b []byte
		n int
		e api.Errno
	}{
		{nil, 1, api.ErrShort},
		{nil, 4096, api.ErrShort},
		{[]byte{128}, 1, api.ErrShort},
		{[]byte{255, 255}, 4096, api.ErrShort},
		{nine, 4096, api.ErrShort},
		{[]byte{1, 10, 128}, 2, api.ErrShort},
		{[]byte{2, 10}, 3, api.ErrShort}, // fewer values than n

		{[]byte{0, 10}, 1, api.ErrForm},
		{[]byte{0}, 1, api.ErrForm},
		{[]byte{0, 128}, 1, api.ErrForm}, // ahead of the value's error
		{[]byte{1, 10, 0, 12}, 2, api.ErrForm},
		{[]byte{1, 10, 0, 12, 1, 14}, 2, api.ErrForm},
		{[]byte{128, 0, 10}, 1, api.ErrForm}, // could be put in fewer
		{[]byte{129, 0, 10}, 1, api.ErrForm},
		{[]byte{129, 128, 0, 10}, 4096, api.ErrForm},
		{append(slices.Clone(nine), 2), 4096, api.ErrForm}, // its tenth byte is too great
		{append(slices.Clone(nine), 255), 4096, api.ErrForm},

		{[]byte{2, 10}, 1, api.ErrForm}, // more than are missing
		{[]byte{2}, 1, api.ErrForm},     // and that ahead of the value's error
		{[]byte{2, 128}, 1, api.ErrForm},
		{[]byte{3, 10}, 2, api.ErrForm},
		{[]byte{2, 10, 2, 12}, 3, api.ErrForm},
		{[]byte{2, 10, 1, 12, 1, 14}, 3, api.ErrForm}, // the third one stands behind them
		{[]byte{2, 10, 1, 12, 2, 14}, 4, api.ErrForm},
		{[]byte{128, 32, 10}, 4095, api.ErrForm},
		{[]byte{129, 32, 10}, 4096, api.ErrForm},
		{[]byte{1, 10, 128, 32, 12}, 4096, api.ErrForm},
		{append(slices.Clone(great), 10), 4096, api.ErrForm},
		{slices.Concat([]byte{1, 10}, great, []byte{12}), 4096, api.ErrForm},
		{[]byte{128, 128, 128, 128, 16, 10}, 4096, api.ErrForm},     // 2^32
		{[]byte{129, 128, 128, 128, 16, 10}, 1, api.ErrForm},        // 2^32+1
		{append(bytes.Repeat([]byte{128}, 9), 1), 1, api.ErrForm},   // 2^63
		{append(bytes.Repeat([]byte{255}, 8), 127), 1, api.ErrForm}, // 2^63-1
	} {
		checkRefused(t, c.b, c.n, api.Int, c.e)
		if _, e := wantToRuns(c.b, c.n, api.Int); e != c.e {
			t.Error(k, e)
		}
	}
}

// P8.2: of the value of a run: val's errors, and that of the run ahead.
func TestToRunsRefusesValues(t *testing.T) {
	key := []byte{0x80, 0, 0, 0, 0, 0, 0, 0} // of 0
	nine := bytes.Repeat([]byte{255}, 9)
	long := slices.Concat([]byte{128, 8}, bytes.Repeat([]byte{'x'}, 1024))
	for _, c := range []struct {
		b       []byte
		n, kind int
		e       api.Errno
	}{
		{[]byte{1}, 1, api.Int, api.ErrShort},
		{[]byte{1, 128}, 1, api.Int, api.ErrShort},
		{[]byte{1, 10, 1}, 2, api.Int, api.ErrShort},
		{[]byte{1, 10, 1, 255}, 2, api.Int, api.ErrShort},
		{append([]byte{1}, key[:7]...), 1, api.Float, api.ErrShort},
		{[]byte{1}, 1, api.Text, api.ErrShort},
		{[]byte{1, 2, 'a'}, 1, api.Text, api.ErrShort},
		{[]byte{1, 128, 8, 'a'}, 1, api.Text, api.ErrShort}, // 1024 bytes should come
		{append([]byte{1}, long[:1025]...), 1, api.Text, api.ErrShort},

		{[]byte{1, 128, 0}, 1, api.Int, api.ErrForm}, // could be put in fewer
		{slices.Concat([]byte{1}, nine, []byte{2}), 1, api.Int, api.ErrForm},
		{append([]byte{1}, bytes.Repeat([]byte{255}, 8)...), 1, api.Float, api.ErrForm}, // no clean bits have that key
		{append([]byte{1}, make([]byte, 8)...), 1, api.Float, api.ErrForm},
		{[]byte{1, 128, 0}, 1, api.Text, api.ErrForm},

		{[]byte{1, 129, 8}, 1, api.Text, api.ErrRange}, // a text of 1025
		{append([]byte{1, 129, 8}, make([]byte, 1025)...), 1, api.Text, api.ErrRange},
		{slices.Concat([]byte{1}, nine, []byte{1}), 1, api.Text, api.ErrRange},
		{[]byte{1, 0, 1, 129, 8}, 2, api.Text, api.ErrRange},
		{[]byte{1, 129, 8, 0, 0}, 2, api.Text, api.ErrRange}, // ahead of the error of the run behind it

		{[]byte{1, 10, 1, 10}, 2, api.Int, api.ErrForm},
		{[]byte{2, 10, 1, 10}, 3, api.Int, api.ErrForm},
		{[]byte{1, 0, 1, 0}, 2, api.Int, api.ErrForm},
		{[]byte{1, 10, 1, 12, 1, 12}, 3, api.Int, api.ErrForm},
		{[]byte{1, 10, 1, 10}, 4096, api.Int, api.ErrForm}, // ahead of what comes too short behind it
		{[]byte{1, 0, 1, 0, 1, 129, 8}, 3, api.Text, api.ErrForm},
		{slices.Concat([]byte{1}, key, []byte{1}, key), 2, api.Float, api.ErrForm},
		{[]byte{1, 1, 'a', 1, 1, 'a'}, 2, api.Text, api.ErrForm},
		{slices.Concat([]byte{1}, long, []byte{1}, long), 2, api.Text, api.ErrForm},

		{[]byte{1, 10, 1, 14}, 1, api.Int, api.ErrForm}, // something stands behind the last one
		{[]byte{1, 10, 0}, 1, api.Int, api.ErrForm},
		{[]byte{1, 10, 128}, 1, api.Int, api.ErrForm},
		{[]byte{0}, 0, api.Int, api.ErrForm},
		{[]byte{1, 10}, 0, api.Int, api.ErrForm},
		{[]byte{0}, 0, api.Float, api.ErrForm},
		{[]byte{128}, 0, api.Text, api.ErrForm},
	} {
		checkRefused(t, c.b, c.n, c.kind, c.e)
		if _, e := wantToRuns(c.b, c.n, c.kind); e != c.e {
			t.Error(c.b, c.n, c.kind, e)
		}
	}
}

// P8.2: as many as are missing are taken, and a value may come again behind another one.
func TestToRunsTakes(t *testing.T) {
	five, six := num(5), num(6)
	for k, c := range []struct {
		b    []byte
		n    int
		want []rle.Run
	}{
		{nil, 0, nil},
		{[]byte{}, 0, nil},
		{[]byte{1, 10}, 1, []rle.Run{{1, five}}},
		{[]byte{128, 32, 10}, 4096, []rle.Run{{4096, five}}},
		{[]byte{1, 12, 255, 31, 10}, 4096, []rle.Run{{1, six}, {4095, five}}},
		{[]byte{255, 31, 10, 1, 12}, 4096, []rle.Run{{4095, five}, {1, six}}},
		{[]byte{1, 10, 2, 12, 3, 10}, 6, []rle.Run{{1, five}, {2, six}, {3, five}}},
	} {
		if runs, e := rle.ToRuns(c.b, c.n, api.Int); !slices.Equal(runs, c.want) || e != api.OK {
			t.Error(k, runs, e)
		}
		if l, e := rle.Of(c.b, c.n, api.Int); !slices.Equal(l, wantSpread(c.want)) || len(l) != c.n || e != api.OK {
			t.Error(k, len(l), e)
		}
	}
	for _, kind := range kinds() {
		for _, none := range [][]byte{nil, {}} {
			if l, e := rle.Of(none, 0, kind); len(l) != 0 || e != api.OK {
				t.Error(kind, l, e)
			}
		}
	}
}

// P8.2: a kind that is none of the three is refused ahead of all else, an n that may not be ahead of what the bytes are.
func TestToRunsOrdersErrors(t *testing.T) {
	many := []int{0, 1, 2, api.MaxRows, -1, -4096, math.MinInt, api.MaxRows + 1, 1 << 32, 1<<32 + 1, math.MaxInt}
	for _, b := range [][]byte{nil, {}, {0}, {1, 10}, {2, 10}, {129, 32, 10}, {128, 0}, {128}, {1, 10, 1, 10}} {
		for _, n := range many {
			for _, kind := range noKinds() {
				checkRefused(t, b, n, kind, api.ErrArg)
			}
			if n >= 0 && n <= api.MaxRows {
				continue
			}
			for _, kind := range kinds() {
				checkRefused(t, b, n, kind, api.ErrRange)
			}
		}
	}
}

// P8.3: what was laid down is read; of more values it ends too early, of fewer, and with a byte more, something is wrong.
func TestBytesAreRead(t *testing.T) {
	for _, kind := range kinds() {
		for _, l := range columns(kind) {
			b, e := rle.Bytes(l, kind)
			if e != api.OK {
				t.Fatal(kind, len(l), e)
			}
			if runs, e := rle.ToRuns(b, len(l), kind); !slices.Equal(runs, wantRuns(l)) || e != api.OK {
				t.Fatal(kind, len(l), len(runs), e)
			}
			if got, e := rle.Of(b, len(l), kind); !slices.Equal(got, l) || e != api.OK {
				t.Fatal(kind, len(l), len(got), e)
			}
			for _, more := range []int{len(l) + 1, len(l) + 100, api.MaxRows} {
				if more > len(l) && more <= api.MaxRows {
					checkRefused(t, b, more, kind, api.ErrShort)
				}
			}
			for fewer := 0; fewer < len(l); fewer += 1 + len(l)/40 {
				checkRefused(t, b, fewer, kind, api.ErrForm)
			}
			for _, behind := range []byte{0, 1, 128, 255} {
				checkRefused(t, append(slices.Clone(b), behind), len(l), kind, api.ErrForm)
			}
		}
	}
}

// P8.2: a column's bytes, cut anywhere ahead of their end, end too early.
func TestOfWhatIsCut(t *testing.T) {
	for _, kind := range kinds() {
		for _, l := range columns(kind) {
			b := laid(wantRuns(l))
			step := 1
			if len(b) > 300 {
				step += len(b) / 20
			}
			for at := 0; at < len(b); at += step {
				checkRefused(t, b[:at:at], len(l), kind, api.ErrShort)
				// What stands behind the cut is not read, though there is room for it.
				checkRefused(t, b[:at], len(l), kind, api.ErrShort)
			}
			if len(b) > 0 {
				checkRefused(t, b[:len(b)-1], len(l), kind, api.ErrShort)
			}
		}
	}
}

// P8.2 and P8.3: two runs behind one another that have one value are refused, however the values are parted.
func TestToRunsRefusesPartedRuns(t *testing.T) {
	for _, kind := range kinds() {
		for _, v := range values(kind) {
			for _, ahead := range [][]rle.Run{nil, {{3, unlikeOf(v)}}, {{1, v}, {2, unlikeOf(v)}}} {
				for n := 2; n < 6; n++ {
					for first := 1; first < n; first++ {
						runs := append(slices.Clone(ahead), rle.Run{N: first, V: v}, rle.Run{N: n - first, V: v})
						checkRefused(t, laid(runs), len(wantSpread(runs)), kind, api.ErrForm)
					}
				}
			}
		}
	}
}

// unlikeOf is a value of the same kind that isn't the same.
func unlikeOf(v api.Val) api.Val {
	all := values(v.Kind)
	if all[0] == v {
		return all[1]
	}
	return all[0]
}

// P8.2: what comes behind many bytes, and what many bytes come behind, is read as by val.Of of all that is left.
func TestOfLongBytes(t *testing.T) {
	faults := [][]byte{{}, {1}, {1, 0}, {1, 128}, {1, 128, 0}, {1, 129, 8}, {1, 128, 8}, {1, 255, 7}, append([]byte{1}, bytes.Repeat([]byte{255}, 10)...), bytes.Repeat([]byte{128}, 20)}
	for _, kind := range kinds() {
		for _, size := range []int{0, 1, 5, 40} {
			ahead := inRuns(values(kind), size, 3)
			for _, fault := range faults {
				for _, behind := range []int{0, 1, 8, 1022, 1023, 1024, 1025, 1026, 1033, 1034, 1035, 5000} {
					b := slices.Concat(laid(wantRuns(ahead)), fault, bytes.Repeat([]byte{1}, behind))
					for _, n := range []int{size - 1, size, size + 1, size + 2, api.MaxRows} {
						checkOf(t, b, n, kind)
					}
				}
			}
		}
	}
}

// P2 and P8.3: any bytes are taken or refused; what is taken is laid down as the very bytes.
func TestOfAnyBytes(t *testing.T) {
	for _, kind := range kinds() {
		taken := 0
		for size := range 24 {
			for seed := range uint64(200) {
				b := make([]byte, size)
				for i, n := range mixed(seed*100+uint64(size), size, 1<<20) {
					// Small bytes more often, so that there are numbers and texts that end.
					b[i] = byte(n >> 12 >> (seed % 7))
				}
				for n := -1; n < size+9; n++ {
					if checkOf(t, b, n, kind) {
						taken++
					}
				}
			}
		}
		if kind != api.Float && taken < 100 {
			t.Error("too few were taken to tell", kind, taken)
		}
	}
}

// P8.2: of one and of two bytes all of them, and of six small ones.
func TestOfFewBytes(t *testing.T) {
	for _, kind := range kinds() {
		for pair := range 1 << 16 {
			b := []byte{byte(pair), byte(pair >> 8)}
			for n := range 4 {
				checkOf(t, b, n, kind)
				checkOf(t, b[:1], n, kind)
			}
		}
	}
	for _, kind := range []int{api.Int, api.Text} {
		taken := 0
		for digits := range 4 * 4 * 4 * 4 * 4 * 4 {
			var b []byte
			for i := range 6 {
				b = append(b, byte(digits>>(2*i)%4))
			}
			for n := range 11 {
				if checkOf(t, b, n, kind) {
					taken++
				}
			}
		}
		if taken < 50 {
			t.Error("too few were taken to tell", kind, taken)
		}
	}
}

// P8.3: a column's bytes with one of them changed are taken or refused as the chapter says.
func TestOfChangedBytes(t *testing.T) {
	for _, kind := range kinds() {
		l := inRuns(values(kind)[:9], 30, 4)
		b := laid(wantRuns(l))
		for i := range b {
			for _, change := range []byte{1, 2, 3, 4, 16, 64, 128, 255} {
				other := slices.Clone(b)
				other[i] ^= change
				for n := 28; n < 33; n++ {
					checkOf(t, other, n, kind)
				}
			}
		}
	}
}

// P1 and P8.3: as many as there may be, of the greatest size, in one run and in as many as there may be.
func TestTheMost(t *testing.T) {
	long := strings.Repeat("\xFF", api.MaxText-1)
	for _, pair := range [][2]api.Val{{num(math.MinInt64), num(math.MaxInt64)}, {ofBits(theNaN), float(0)}, {text(long + "a"), text(long + "b")}} {
		for _, l := range [][]api.Val{slices.Repeat(pair[:1], api.MaxRows), slices.Repeat(pair[:], api.MaxRows/2)} {
			b, e := rle.Bytes(l, l[0].Kind)
			if !slices.Equal(b, laid(wantRuns(l))) || e != api.OK {
				t.Error(l[0].Kind, len(b), e)
			}
			if got, e := rle.Of(b, api.MaxRows, l[0].Kind); !slices.Equal(got, l) || e != api.OK {
				t.Error(l[0].Kind, len(got), e)
			}
		}
	}
	// Far more bytes than 4096 values have: something stands behind them.
	checkRefused(t, append([]byte{128, 32, 10}, make([]byte, 1<<24)...), api.MaxRows, api.Int, api.ErrForm)
}

// R3: what Runs and Spread tell is the caller's own, and what was handed in stays.
func TestRunsAreTheCallersOwn(t *testing.T) {
	for _, kind := range kinds() {
		for k, l := range columns(kind) {
			was, want := slices.Clone(l), wantRuns(l)
			runs, again := rle.Runs(l), rle.Runs(l)
			for i := range runs {
				runs[i] = rle.Run{N: -1, V: text("changed")}
			}
			_ = append(runs, rle.Run{})
			spread, other := rle.Spread(again), rle.Spread(again)
			for i := range spread {
				spread[i] = text("changed")
			}
			_ = append(spread, text("more"))
			if !slices.Equal(l, was) || !slices.Equal(again, want) || !slices.Equal(other, was) {
				t.Fatal(kind, k, "an answer is shared")
			}
			for i := range l {
				l[i] = api.Val{}
			}
			if !slices.Equal(again, want) {
				t.Fatal(kind, k, "an answer has changed")
			}
			for i := range again {
				again[i] = rle.Run{}
			}
			if !slices.Equal(other, was) {
				t.Fatal(kind, k, "an answer has changed")
			}
		}
	}
}

// R3: what Bytes tells is the caller's own, and what was handed in stays.
func TestBytesAreTheCallersOwn(t *testing.T) {
	for _, kind := range kinds() {
		for k, l := range columns(kind) {
			was := slices.Clone(l)
			b, _ := rle.Bytes(l, kind)
			again, _ := rle.Bytes(l, kind)
			for i := range b {
				b[i]++
			}
			_ = append(b, 1)
			for i := range l {
				if l[i] != was[i] {
					t.Fatal(kind, k, "what was handed in has changed")
				}
				l[i] = api.Val{}
			}
			if !slices.Equal(again, laid(wantRuns(was))) {
				t.Fatal(kind, k, "an answer has changed")
			}
		}
	}
}

// R3: what ToRuns and Of tell is the caller's own: neither the bytes nor another answer change it, nor it them.
func TestOfIsTheCallersOwn(t *testing.T) {
	for _, kind := range kinds() {
		for k, want := range columns(kind) {
			b := append(laid(wantRuns(want)), 7) // with room behind it, which an answer must not reach
			was := slices.Clone(b)
			runs, _ := rle.ToRuns(b[:len(b)-1], len(want), kind)
			sameRuns, _ := rle.ToRuns(b[:len(b)-1], len(want), kind)
			got, _ := rle.Of(b[:len(b)-1], len(want), kind)
			again, _ := rle.Of(b[:len(b)-1], len(want), kind)
			for i := range runs {
				runs[i] = rle.Run{}
			}
			for i := range got {
				got[i] = text("changed")
			}
			_, _ = append(runs, rle.Run{}), append(got, text("more"))
			if !slices.Equal(b, was) {
				t.Fatal(kind, k, "what was handed in has changed")
			}
			for i := range b {
				b[i]++
			}
			if !slices.Equal(again, want) || !slices.Equal(sameRuns, wantRuns(want)) {
				t.Fatal(kind, k, "an answer has changed")
			}
		}
	}
}

// P1 and P8.1 to P8.3: any bytes, any values and any runs, of any kind and number.
func FuzzRle(f *testing.F) {
	f.Add([]byte{2, 10, 1, 14}, 3, 1, int64(5), "")
	f.Add([]byte{2, 2, 'a', 'b', 1, 0}, 3, 3, int64(0), "ab")
	f.Add([]byte{1, 0x80, 0, 0, 0, 0, 0, 0, 0}, 1, 2, int64(1)<<62, "")
	f.Add([]byte{1, 129, 8}, 4097, 4, int64(1), "x")
	f.Add([]byte{128, 0}, -1, 0, int64(0), "")
	f.Fuzz(func(t *testing.T, b []byte, n, kind int, i int64, s string) {
		checkOf(t, b, n, kind)
		for _, k := range kinds() {
			checkOf(t, b, n, k)
			checkOf(t, b, len(b), k)
		}
		var mixture, ints, floats, texts []api.Val
		var runs []rle.Run
		for _, c := range b {
			mixture = append(mixture, api.Val{Kind: int(c % 5), I: i * int64(c&8), S: s[:min(len(s), int(c>>4))]})
			ints = append(ints, num(i+int64(c&1)))
			floats = append(floats, val.Clean(ofBits(uint64(i)+uint64(c&1))))
			texts = append(texts, text(s[:min(len(s), int(c&1))]))
			runs = append(runs, rle.Run{N: n * int(int8(c)), V: mixture[len(mixture)-1]})
		}
		checkSpread(t, runs)
		for _, l := range [][]api.Val{mixture, ints, floats, texts, {{Kind: kind, I: i, S: s}}} {
			checkRuns(t, l)
			for _, k := range append(kinds(), kind) {
				e := wantOfCheck(l, k)
				checkBytes(t, l, k, e)
				if e == api.OK && !checkOf(t, laid(wantRuns(l)), len(l), k) {
					t.Fatal(l, k)
				}
			}
		}
	})
}
