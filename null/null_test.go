package null_test

import (
	"bytes"
	"math"
	"slices"
	"strings"
	"testing"

	"astragal/api"
	"astragal/bits"
	"astragal/null"
)

const most = 1 << 20 // numbers that bits.Unpack reads at a time

func num(n int64) api.Val { return api.Val{Kind: api.Int, I: n} }

func text(s string) api.Val { return api.Val{Kind: api.Text, S: s} }

func float(f float64) api.Val { return api.Val{Kind: api.Float, I: int64(math.Float64bits(f))} }

// mixed are bools that look like chance, and are the same each time.
func mixed(seed uint64, n int) []bool {
	l := make([]bool, n)
	for i := range l {
		seed = seed*6364136223846793005 + 1442695040888963407
		l[i] = seed>>63 == 1
	}
	return l
}

// all is n times b.
func all(n int, b bool) []bool {
	return slices.Repeat([]bool{b}, n)
}

// spelt is bools of letters: n of one that is nothing, any other of one that isn't.
func spelt(s string) []bool {
	l := make([]bool, len(s))
	for i, c := range s {
		l[i] = c == 'n'
	}
	return l
}

// nothing are values of kind Null, most of which may not be.
func nothing() []api.Val {
	return []api.Val{{}, {I: 1}, {I: -1}, {I: math.MinInt64}, {I: math.MaxInt64}, {S: "x"}, {S: "\x00"}, {I: 5, S: "x"}, {S: strings.Repeat("x", api.MaxText+1)}}
}

// things are values that aren't Null, such that may be, and such that may not.
func things() []api.Val {
	return []api.Val{
		num(0), num(5), num(-5), num(math.MinInt64), num(math.MaxInt64),
		float(0), float(math.Copysign(0, -1)), float(2.5), float(math.NaN()), float(math.Inf(-1)),
		text(""), text("x"), text("\x00"), text(strings.Repeat("x", api.MaxText)),

		{Kind: api.Int, S: "x"}, {Kind: api.Float, I: -1}, {Kind: api.Float, S: "x"}, {Kind: api.Text, I: 1},
		text(strings.Repeat("x", api.MaxText+1)),
		{Kind: -1}, {Kind: 4}, {Kind: 4, I: 1, S: "x"}, {Kind: 256}, {Kind: 1 << 32}, {Kind: math.MinInt}, {Kind: math.MaxInt, S: "a"},
	}
}

// columns are lists of values of many lengths, with what is nothing at many places.
func columns() [][]api.Val {
	nulls, others := nothing(), things()
	l := [][]api.Val{nil, {}, nulls, others, slices.Concat(nulls, others), slices.Concat(others, nulls)}
	for _, v := range slices.Concat(nulls, others) {
		l = append(l, []api.Val{v}, []api.Val{v, {}, v}, []api.Val{num(5), v, num(6)})
	}
	for n := range 70 {
		column := make([]api.Val, n)
		for i, isNull := range mixed(uint64(n), n) {
			column[i] = others[(n+i)%len(others)]
			if isNull {
				column[i] = nulls[(n*i)%len(nulls)]
			}
		}
		l = append(l, column)
	}
	return l
}

// patterns are bools of many lengths: all of one kind, all but one, and like chance.
func patterns() [][]bool {
	l := [][]bool{nil, {}}
	for n := range 70 {
		l = append(l, all(n, true), all(n, false), mixed(uint64(n), n), mixed(uint64(n)+1000, n))
		for i := range n {
			one := all(n, i%2 == 0)
			one[i] = !one[i]
			l = append(l, one)
		}
	}
	return append(l, mixed(7, api.MaxRows), all(api.MaxRows, true), all(api.MaxRows, false))
}

// falses is how many of nulls are false.
func falses(nulls []bool) int {
	n := 0
	for _, isNull := range nulls {
		if !isNull {
			n++
		}
	}
	return n
}

// some are n values, none of which is Null.
func some(n int) []api.Val {
	others := things()
	l := make([]api.Val, n)
	for i := range l {
		l[i] = others[i%len(others)]
	}
	return l
}

// digits spells bools as bits' chapter does: the first one the first byte's lowest bit, the last byte filled with zeros.
func digits(nulls []bool) []byte {
	b := make([]byte, (len(nulls)+7)/8)
	for i, isNull := range nulls {
		if isNull {
			b[i/8] += 1 << (i % 8)
		}
	}
	return b
}

// P6.1: the example, and others that are known.
func TestSplit(t *testing.T) {
	five, six, x := num(5), num(6), text("x")
	for k, c := range []struct {
		l      []api.Val
		nulls  string
		others []api.Val
	}{
		{[]api.Val{five, {}, six}, ".n.", []api.Val{five, six}},
		{nil, "", nil},
		{[]api.Val{}, "", nil},
		{[]api.Val{{}}, "n", nil},
		{[]api.Val{{}, {}, {}}, "nnn", nil},
		{[]api.Val{five}, ".", []api.Val{five}},
		{[]api.Val{six, x, five}, "...", []api.Val{six, x, five}},
		{[]api.Val{{}, five}, "n.", []api.Val{five}},
		{[]api.Val{five, {}}, ".n", []api.Val{five}},
		{[]api.Val{five, five, {}, {}, five, x}, "..nn..", []api.Val{five, five, five, x}},
		{[]api.Val{{I: 1}, five, {S: "x"}, {I: -1, S: "x"}}, "n.nn", []api.Val{five}},
		{[]api.Val{num(0), text(""), float(0)}, "...", []api.Val{num(0), text(""), float(0)}},
	} {
		nulls, others := null.Split(c.l)
		if !slices.Equal(nulls, spelt(c.nulls)) || !slices.Equal(others, c.others) {
			t.Error(k, nulls, others)
		}
	}
}

// P6.1: it is the kind that tells, whatever else a value has, and whether it may be or not.
func TestSplitGoesByKind(t *testing.T) {
	for _, v := range nothing() {
		if nulls, others := null.Split([]api.Val{v}); !slices.Equal(nulls, []bool{true}) || len(others) != 0 {
			t.Error(v, nulls, others)
		}
	}
	for _, v := range things() {
		if nulls, others := null.Split([]api.Val{v}); !slices.Equal(nulls, []bool{false}) || !slices.Equal(others, []api.Val{v}) {
			t.Error(v, nulls, others)
		}
	}
}

// P6.1: of columns of all kinds, one by one.
func TestSplitOfAll(t *testing.T) {
	for k, l := range columns() {
		was := slices.Clone(l)
		nulls, others := null.Split(l)
		if len(nulls) != len(l) {
			t.Fatal(k, nulls)
		}
		next := 0
		for i, v := range l {
			if nulls[i] != (v.Kind == api.Null) {
				t.Fatal(k, i, v, nulls[i])
			}
			if v.Kind == api.Null {
				continue
			}
			if next == len(others) || others[next] != v {
				t.Fatal(k, i, v, others)
			}
			next++
		}
		if next != len(others) {
			t.Fatal(k, next, others)
		}
		if !slices.Equal(l, was) {
			t.Fatal(k, "what was handed in has changed")
		}
	}
}

// P6.1: answers that are known, and what is refused.
func TestJoin(t *testing.T) {
	five, six, x := num(5), num(6), text("x")
	for k, c := range []struct {
		nulls string
		l     []api.Val
		want  []api.Val
		e     api.Errno
	}{
		{".n.", []api.Val{five, six}, []api.Val{five, {}, six}, api.OK},
		{"", nil, nil, api.OK},
		{"", []api.Val{}, nil, api.OK},
		{"n", nil, []api.Val{{}}, api.OK},
		{"nnn", []api.Val{}, []api.Val{{}, {}, {}}, api.OK},
		{"...", []api.Val{six, x, five}, []api.Val{six, x, five}, api.OK},
		{"n.", []api.Val{five}, []api.Val{{}, five}, api.OK},
		{".n", []api.Val{five}, []api.Val{five, {}}, api.OK},
		{"nn..n.", []api.Val{six, five, x}, []api.Val{{}, {}, six, five, {}, x}, api.OK},

		{"", []api.Val{five}, nil, api.ErrForm},
		{"", []api.Val{{}}, nil, api.ErrForm},
		{"n", []api.Val{five}, nil, api.ErrForm},
		{"n", []api.Val{{}}, nil, api.ErrForm},
		{".", nil, nil, api.ErrForm},
		{".", []api.Val{{}}, nil, api.ErrForm},
		{".", []api.Val{five, six}, nil, api.ErrForm},
		{".", []api.Val{five, {}}, nil, api.ErrForm},
		{".n.", []api.Val{five}, nil, api.ErrForm},
		{".n.", []api.Val{five, six, five}, nil, api.ErrForm},
		{".n.", []api.Val{five, {}, six}, nil, api.ErrForm}, // as many as there are places
		{".n.", []api.Val{{}, six}, nil, api.ErrForm},
		{".n.", []api.Val{five, {}}, nil, api.ErrForm},
		{"nnn", []api.Val{{}, {}, {}}, nil, api.ErrForm},
	} {
		if l, e := null.Join(spelt(c.nulls), c.l); !slices.Equal(l, c.want) || e != c.e {
			t.Error(k, l, e)
		}
	}
}

// P6.1 and R2: nil and empty are the same, on either side.
func TestJoinOfNothing(t *testing.T) {
	for _, nulls := range [][]bool{nil, {}} {
		for _, l := range [][]api.Val{nil, {}} {
			if got, e := null.Join(nulls, l); len(got) != 0 || e != api.OK {
				t.Error(nulls, l, got, e)
			}
		}
	}
}

// P6.1: just as many as there are places that aren't nothing; neither one more nor one less, and R1 with an error.
func TestJoinCounts(t *testing.T) {
	for _, nulls := range patterns() {
		was := slices.Clone(nulls)
		n := falses(nulls)
		for _, size := range []int{0, n - 2, n - 1, n, n + 1, n + 2, len(nulls), 2*len(nulls) + 1} {
			if size < 0 {
				continue
			}
			l, e := null.Join(nulls, some(size))
			if size == n && (e != api.OK || len(l) != len(nulls)) || size != n && (e != api.ErrForm || len(l) != 0) {
				t.Fatal(nulls, size, l, e)
			}
		}
		if !slices.Equal(nulls, was) {
			t.Fatal("what was handed in has changed", nulls, was)
		}
	}
}

// P6.1: one that is Null is refused at each place, whatever else it has, and also where the number of them is wrong.
func TestJoinRefusesNull(t *testing.T) {
	nulls := spelt("n..n.n...nn")
	for _, v := range nothing() {
		for size := 1; size < 9; size++ {
			for i := range size {
				l := some(size)
				l[i] = v
				if got, e := null.Join(nulls, l); len(got) != 0 || e != api.ErrForm {
					t.Error(v, size, i, got, e)
				}
			}
		}
	}
}

// P6.1: values that may not be, but aren't Null, are taken as they are.
func TestJoinTakesWhatIsNotNull(t *testing.T) {
	for _, v := range things() {
		if l, e := null.Join(spelt("n.n."), []api.Val{v, v}); !slices.Equal(l, []api.Val{{}, v, {}, v}) || e != api.OK {
			t.Error(v, l, e)
		}
	}
}

// P6.3: what was split is joined; of a value of kind Null that may not be, the kind alone stays.
func TestSplitIsJoined(t *testing.T) {
	for k, l := range columns() {
		want := slices.Clone(l)
		for i, v := range want {
			if v.Kind == api.Null {
				want[i] = api.Val{}
			}
		}
		if got, e := null.Join(null.Split(l)); !slices.Equal(got, want) || e != api.OK {
			t.Fatal(k, got, e)
		}
	}
}

// P6.3: what was joined is split.
func TestJoinedIsSplit(t *testing.T) {
	for _, want := range patterns() {
		others := some(falses(want))
		l, e := null.Join(want, others)
		if e != api.OK {
			t.Fatal(want, e)
		}
		if nulls, got := null.Split(l); !slices.Equal(nulls, want) || !slices.Equal(got, others) {
			t.Fatal(want, nulls, got)
		}
	}
}

// P6.2: bytes that are known; places of no number, of 7, 8 and 9, all true and all false.
func TestBytes(t *testing.T) {
	for k, c := range []struct {
		nulls []bool
		want  []byte
	}{
		{nil, nil},
		{[]bool{}, nil},
		{[]bool{true}, []byte{1}},
		{[]bool{false}, []byte{0}},
		{spelt(".n."), []byte{2}},
		{spelt("n..n"), []byte{9}},
		{all(7, true), []byte{0x7F}},
		{all(7, false), []byte{0}},
		{all(8, true), []byte{0xFF}},
		{all(8, false), []byte{0}},
		{all(9, true), []byte{0xFF, 1}},
		{all(9, false), []byte{0, 0}},
		{spelt(".......n"), []byte{0x80}},
		{spelt("........n"), []byte{0, 1}},
		{spelt("n.......n.n....."), []byte{1, 5}},
	} {
		was := slices.Clone(c.nulls)
		if b := null.Bytes(c.nulls); !slices.Equal(b, c.want) || !slices.Equal(c.nulls, was) {
			t.Error(k, b, c.nulls)
		}
		if got, e := null.Of(c.want, len(c.nulls)); !slices.Equal(got, c.nulls) || e != api.OK {
			t.Error(k, got, e)
		}
	}
}

// P6.2: of all lengths, as bits packs them.
func TestBytesOfAll(t *testing.T) {
	for _, nulls := range patterns() {
		l := make([]uint64, len(nulls))
		for i, isNull := range nulls {
			if isNull {
				l[i] = 1
			}
		}
		packed, e := bits.Pack(l, 1)
		if b := null.Bytes(nulls); e != api.OK || !slices.Equal(b, packed) || !slices.Equal(b, digits(nulls)) {
			t.Fatal(nulls, b, packed, e)
		}
	}
}

// P6.2: what is read, and the error that bits names first, with zero values.
func TestOf(t *testing.T) {
	for k, c := range []struct {
		b    []byte
		n    int
		want string
		e    api.Errno
	}{
		{nil, 0, "", api.OK},
		{[]byte{}, 0, "", api.OK},
		{[]byte{9}, 4, "n..n", api.OK},
		{[]byte{9}, 5, "n..n.", api.OK},
		{[]byte{9}, 8, "n..n....", api.OK},
		{[]byte{0xFF, 1}, 9, "nnnnnnnnn", api.OK},
		{[]byte{0, 0x80}, 16, "...............n", api.OK},

		{nil, 1, "", api.ErrShort},
		{[]byte{}, 8, "", api.ErrShort},
		{[]byte{9}, 9, "", api.ErrShort},
		{[]byte{0xFF}, 16, "", api.ErrShort},
		{[]byte{1, 2, 3}, 25, "", api.ErrShort},
		{[]byte{9}, 1000, "", api.ErrShort},
		{nil, most, "", api.ErrShort},
		{[]byte{9}, most, "", api.ErrShort},

		{[]byte{0}, 0, "", api.ErrForm},
		{[]byte{9}, 0, "", api.ErrForm},
		{[]byte{9}, 3, "", api.ErrForm},
		{[]byte{0x80}, 7, "", api.ErrForm},
		{[]byte{0xFF, 3}, 9, "", api.ErrForm},
		{[]byte{0xFF, 0x80}, 15, "", api.ErrForm},
		{[]byte{9, 0}, 4, "", api.ErrForm},
		{[]byte{9, 0}, 8, "", api.ErrForm},
		{[]byte{1, 2, 0}, 16, "", api.ErrForm},

		{nil, -1, "", api.ErrArg},
		{[]byte{9}, -1, "", api.ErrArg},
		{[]byte{9}, -8, "", api.ErrArg},
		{[]byte{9}, math.MinInt, "", api.ErrArg},
		{nil, most + 1, "", api.ErrArg},
		{[]byte{9}, most + 1, "", api.ErrArg},
		{[]byte{9}, math.MaxInt, "", api.ErrArg},
		{make([]byte, most/8+1), most + 1, "", api.ErrArg},
		{make([]byte, most), most + 1, "", api.ErrArg},
	} {
		was := slices.Clone(c.b)
		if got, e := null.Of(c.b, c.n); !slices.Equal(got, spelt(c.want)) || e != c.e || !slices.Equal(c.b, was) {
			t.Error(k, got, e)
		}
	}
}

// checkOf holds what is read against bits.Unpack, and tells whether it was taken.
func checkOf(t *testing.T, b []byte, n int) bool {
	t.Helper()
	was := slices.Clone(b)
	got, e := null.Of(b, n)
	l, want := bits.Unpack(b, n, 1)
	if e != want || len(got) != len(l) || !slices.Equal(b, was) {
		t.Fatal(b, n, got, e, want)
	}
	if e != api.OK {
		return false
	}
	for i, bit := range l {
		if got[i] != (bit == 1) {
			t.Fatal(b, n, i, got)
		}
	}
	if len(got) != n || !slices.Equal(null.Bytes(got), b) {
		t.Fatal(b, n, got)
	}
	return true
}

// P2: any bytes are taken or refused; what is taken is laid down as the very bytes.
func TestOfAnyBytes(t *testing.T) {
	taken := 0
	for size := range 4 {
		for seed := range uint64(64) {
			b := digits(mixed(seed, size*8))
			if size > 0 {
				// Small last bytes, too, so that there are such with nothing behind the last place.
				b[size-1] >>= seed % 9
			}
			for n := -3; n < 40; n++ {
				if checkOf(t, b, n) {
					taken++
				}
			}
		}
	}
	if taken < 500 {
		t.Error("too few were taken to tell", taken)
	}
}

// P6.3: what was laid down is read; with a byte more or less, or a bit behind it, it is not.
func TestBytesAreRead(t *testing.T) {
	for _, nulls := range patterns() {
		n := len(nulls)
		b := null.Bytes(nulls)
		if got, e := null.Of(b, n); !slices.Equal(got, nulls) || e != api.OK {
			t.Fatal(nulls, got, e)
		}
		for _, behind := range []byte{0, 1, 255} {
			if got, e := null.Of(append(slices.Clone(b), behind), n); len(got) != 0 || e != api.ErrForm {
				t.Fatal(nulls, behind, got, e)
			}
		}
		if n == 0 {
			continue
		}
		if got, e := null.Of(b[:len(b)-1], n); len(got) != 0 || e != api.ErrShort {
			t.Fatal(nulls, got, e)
		}
		for i := n; i < 8*len(b); i++ {
			more := slices.Clone(b)
			more[i/8] |= 1 << (i % 8)
			if got, e := null.Of(more, n); len(got) != 0 || e != api.ErrForm {
				t.Fatal(nulls, i, got, e)
			}
		}
	}
}

// P6.2: as many as bits reads at a time are laid down and read; of one more there are bytes, which bits refuses.
func TestTheMost(t *testing.T) {
	for _, nulls := range [][]bool{all(most, true), all(most, false), mixed(11, most)} {
		b := null.Bytes(nulls)
		if got, e := null.Of(b, most); !slices.Equal(got, nulls) || e != api.OK || len(b) != most/8 {
			t.Error(len(b), len(got), e)
		}
	}
	b := null.Bytes(all(most+1, true))
	if got, e := null.Of(b, most+1); len(got) != 0 || e != api.ErrArg || !slices.Equal(b, append(bytes.Repeat([]byte{255}, most/8), 1)) {
		t.Error(len(b), len(got), e)
	}
}

// P6.2: how many are true.
func TestCount(t *testing.T) {
	for _, c := range []struct {
		nulls string
		want  int
	}{{"", 0}, {"n", 1}, {".", 0}, {".n.", 1}, {"n..n", 2}, {"nnn", 3}, {".....", 0}} {
		if n := null.Count(spelt(c.nulls)); n != c.want {
			t.Error(c.nulls, n)
		}
	}
	if n := null.Count(nil); n != 0 {
		t.Error(n)
	}
	for _, nulls := range patterns() {
		was := slices.Clone(nulls)
		if n := null.Count(nulls); n != len(nulls)-falses(nulls) || !slices.Equal(nulls, was) {
			t.Fatal(nulls, n)
		}
	}
}

// R3: what Split tells is the caller's own, also where it has all values as they came.
func TestSplitIsTheCallersOwn(t *testing.T) {
	for _, l := range columns() {
		was := slices.Clone(l)
		nulls, others := null.Split(l)
		againNulls, againOthers := null.Split(l)
		wantNulls, wantOthers := slices.Clone(againNulls), slices.Clone(againOthers)
		for i := range nulls {
			nulls[i] = !nulls[i]
		}
		for i := range others {
			others[i] = text("changed")
		}
		_ = append(others, text("more"))
		if !slices.Equal(l, was) {
			t.Fatal("an answer is shared with what was handed in", was)
		}
		for i := range l {
			l[i] = text("changed")
		}
		if !slices.Equal(againNulls, wantNulls) || !slices.Equal(againOthers, wantOthers) {
			t.Fatal("an answer has changed", was)
		}
	}
}

// R3: what Join tells is the caller's own, also where nothing is Null; and what was handed in stays.
func TestJoinIsTheCallersOwn(t *testing.T) {
	for _, nulls := range patterns() {
		// Room behind the values, which an answer must not reach.
		room := append(some(falses(nulls)), text("behind"))
		was := slices.Clone(room)
		l := room[:len(room)-1]
		got, _ := null.Join(nulls, l)
		again, _ := null.Join(nulls, l)
		want := slices.Clone(again)
		for i := range got {
			got[i] = text("changed")
		}
		_ = append(got, text("more"))
		if !slices.Equal(room, was) {
			t.Fatal("an answer is shared with what was handed in", nulls)
		}
		for i := range room {
			room[i] = text("changed")
		}
		if !slices.Equal(again, want) {
			t.Fatal("an answer has changed", nulls)
		}
	}
}

// R3 and R4: what Bytes and Of tell is the caller's own, and stays when they are called again.
func TestBytesAndOfAreTheCallersOwn(t *testing.T) {
	for _, nulls := range patterns() {
		b, other := null.Bytes(nulls), null.Bytes(nulls)
		got, _ := null.Of(b, len(nulls))
		again, _ := null.Of(b, len(nulls))
		for i := range b {
			b[i]++
		}
		for i := range got {
			got[i] = !got[i]
		}
		if !slices.Equal(other, digits(nulls)) || !slices.Equal(null.Bytes(nulls), other) || !slices.Equal(again, nulls) {
			t.Fatal(nulls, other, again)
		}
	}
}

// P1 and P6.1 to P6.3: any kinds, and any bytes, of any number of places.
func FuzzNull(f *testing.F) {
	f.Add([]byte{1, 0, 1}, int64(5), "", 3)
	f.Add([]byte{9}, int64(0), "x", 4)
	f.Add([]byte{}, int64(-1), "x", -1)
	f.Add([]byte{0, 255, 3, 4}, int64(0), "", 1<<20+1)
	f.Fuzz(func(t *testing.T, b []byte, n int64, s string, places int) {
		checkOf(t, b, places)
		checkOf(t, b, len(b)*8)
		l := make([]api.Val, len(b))
		want := make([]api.Val, len(b))
		for i, c := range b {
			l[i] = api.Val{Kind: int(int8(c)), I: n, S: s}
			if c != api.Null {
				want[i] = l[i]
			}
		}
		nulls, others := null.Split(l)
		if len(nulls) != len(l) || null.Count(nulls) != bytes.Count(b, []byte{api.Null}) || len(others) != falses(nulls) {
			t.Fatal(l, nulls, others)
		}
		if got, e := null.Join(nulls, others); !slices.Equal(got, want) || e != api.OK {
			t.Fatal(l, got, e)
		}
		if got, e := null.Join(nulls, l); (e == api.OK) != (null.Count(nulls) == 0) || e == api.OK && !slices.Equal(got, l) {
			t.Fatal(l, got, e)
		}
		if got, e := null.Of(null.Bytes(nulls), len(nulls)); !slices.Equal(got, nulls) || e != api.OK {
			t.Fatal(nulls, got, e)
		}
	})
}
