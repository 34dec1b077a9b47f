package val_test

import (
	"bytes"
	"cmp"
	"math"
	"math/big"
	"slices"
	"strings"
	"testing"

	"astragal/api"
	"astragal/val"
)

const (
	sign     = uint64(1) << 63
	exponent = uint64(0x7FF) << 52
	fraction = uint64(1)<<52 - 1
	theNaN   = uint64(0x7FF8000000000000)
)

func num(n int64) api.Val { return api.Val{Kind: api.Int, I: n} }

func ofBits(bits uint64) api.Val { return api.Val{Kind: api.Float, I: int64(bits)} }

func float(f float64) api.Val { return ofBits(math.Float64bits(f)) }

func text(s string) api.Val { return api.Val{Kind: api.Text, S: s} }

// mixed are numbers that look like chance, and are the same each time.
func mixed(seed uint64, n int) []uint64 {
	l := make([]uint64, n)
	for i := range l {
		seed = seed*6364136223846793005 + 1442695040888963407
		high := seed >> 32 << 32
		seed = seed*6364136223846793005 + 1442695040888963407
		l[i] = high | seed>>32
	}
	return l
}

// many is c so often, and what comes behind.
func many(n int, c byte, behind ...byte) []byte {
	return append(bytes.Repeat([]byte{c}, n), behind...)
}

// rising are values that may be, in the order of P5.1, no two of them alike.
func rising() []api.Val {
	l := []api.Val{{}}
	for _, n := range []int64{math.MinInt64, math.MinInt64 + 1, -1 << 53, -300, -64, -5, -1, 0, 1, 63, 64, 300, 1 << 53, math.MaxInt64 - 1, math.MaxInt64} {
		l = append(l, num(n))
	}
	above := []float64{0, math.SmallestNonzeroFloat64, 0.5, 1, math.Nextafter(1, 2), 2.5, 1 << 53, math.MaxFloat64, math.Inf(1)}
	for _, f := range slices.Backward(above) {
		l = append(l, float(math.Copysign(f, -1)))
	}
	for _, f := range above {
		l = append(l, float(f))
	}
	l = append(l, ofBits(theNaN))
	for _, s := range []string{
		"", "\x00", "\x00\x00", "\x00a", "A", "B", "a", "a\x00", "aa", "ab", "b", "\x7F", "\x80", "\xC3\xA9", "\xFF",
		strings.Repeat("\xFF", api.MaxText-1), strings.Repeat("\xFF", api.MaxText),
	} {
		l = append(l, text(s))
	}
	return l
}

// nans are bits of NaNs, none of which is clean.
func nans() []uint64 {
	l := []uint64{exponent | 1, exponent | fraction, theNaN | 1, theNaN | sign, sign | exponent | 1, math.MaxUint64, math.MaxInt64}
	for _, n := range mixed(1, 30) {
		l = append(l, n|exponent|1)
	}
	return l
}

// noKinds are numbers that are none of the four.
func noKinds() []int {
	return []int{math.MinInt, -256, -4, -2, -1, 4, 5, 7, 256, 1 << 32, math.MaxInt - 1, math.MaxInt}
}

// wrong are values that may not be.
func wrong() []api.Val {
	long := strings.Repeat("x", api.MaxText+1)
	l := []api.Val{
		{I: 1}, {I: -1}, {I: math.MinInt64}, {S: "x"}, {I: 1, S: "x"}, {S: "\x00"}, {S: long},
		{Kind: api.Int, S: "x"}, {Kind: api.Int, I: 5, S: "\x00"}, {Kind: api.Int, I: -5, S: long},
		{Kind: api.Float, S: "x"}, {Kind: api.Float, I: int64(theNaN), S: "\x00"}, {Kind: api.Float, I: int64(exponent | 1), S: "x"}, {Kind: api.Float, S: long},
		{Kind: api.Text, I: 1}, {Kind: api.Text, I: -1, S: "a"}, {Kind: api.Text, I: math.MinInt64, S: "a"}, {Kind: api.Text, I: int64(theNaN), S: long},
		text(long), text(strings.Repeat("\x00", api.MaxText+1)), text(strings.Repeat("é", api.MaxText/2+1)), text(strings.Repeat(long, 9)),
	}
	for _, bits := range nans() {
		l = append(l, ofBits(bits))
	}
	for _, k := range noKinds() {
		l = append(l, api.Val{Kind: k}, api.Val{Kind: k, I: 1}, api.Val{Kind: k, I: -1, S: "x"}, api.Val{Kind: k, S: "a"})
	}
	return l
}

// samples are values of all kinds, such that may be and such that may not, and some like chance.
func samples() []api.Val {
	l := slices.Concat(rising(), wrong())
	for i, n := range mixed(2, 60) {
		l = append(l, num(int64(n)>>(i%64)), ofBits(n), ofBits(n>>(i%64)), text(string(big.NewInt(int64(n)).Bytes())))
	}
	return l
}

func isNaN(v api.Val) bool {
	return math.IsNaN(math.Float64frombits(uint64(v.I)))
}

// wantOfMay is the chapter's words on a value that may be, one by one.
func wantOfMay(v api.Val) bool {
	isOne := slices.Contains([]int{api.Null, api.Int, api.Float, api.Text}, v.Kind)
	textFits := len(v.S) == 0 || v.Kind == api.Text && len(v.S) <= 1024
	numberFits := v.I == 0 || v.Kind == api.Int || v.Kind == api.Float
	clean := v.Kind != api.Float || !isNaN(v) || uint64(v.I) == theNaN
	return isOne && textFits && numberFits && clean
}

// wantOfCompare is P5.1's words on the order.
func wantOfCompare(a, b api.Val) int {
	switch {
	case a.Kind != b.Kind:
		return cmp.Compare(a.Kind, b.Kind)
	case a.Kind == api.Int:
		return big.NewInt(a.I).Cmp(big.NewInt(b.I))
	case a.Kind == api.Float:
		return wantOfFloats(a, b)
	case a.Kind == api.Text:
		return bytes.Compare([]byte(a.S), []byte(b.S))
	}
	return 0
}

// wantOfFloats is the order by value, with -0 ahead of +0, and NaNs alike and last.
func wantOfFloats(a, b api.Val) int {
	x, y := math.Float64frombits(uint64(a.I)), math.Float64frombits(uint64(b.I))
	switch {
	case isNaN(a) && isNaN(b):
		return 0
	case isNaN(a):
		return 1
	case isNaN(b):
		return -1
	case x == 0 && y == 0:
		return cmp.Compare(uint64(b.I)>>63, uint64(a.I)>>63)
	}
	return cmp.Compare(x, y)
}

// P5.1: values that may be, of each kind, at the edges.
func TestMay(t *testing.T) {
	for _, v := range slices.Concat(rising(), []api.Val{
		{}, num(0), num(int64(exponent | 1)), num(-1), ofBits(0), ofBits(sign), ofBits(exponent), ofBits(sign | exponent), ofBits(theNaN), ofBits(1),
		text(""), text(strings.Repeat("x", 1024)), text(strings.Repeat("é", 512)),
	}) {
		if !val.May(v) {
			t.Error(v)
		}
	}
}

// P5.1: values that may not be.
func TestMayNot(t *testing.T) {
	for _, v := range wrong() {
		if val.May(v) {
			t.Error(v)
		}
	}
}

// P5.1: of all kinds and parts, in all ways that they can stand together.
func TestMayOfAll(t *testing.T) {
	kinds := append(noKinds(), api.Null, api.Int, api.Float, api.Text)
	numbers := []int64{0, 1, -1, math.MinInt64, math.MaxInt64, int64(exponent), int64(exponent | 1), int64(theNaN), int64(theNaN) | 1}
	for _, kind := range kinds {
		for _, n := range numbers {
			for _, size := range []int{0, 1, 2, 1023, 1024, 1025, 2048, 70000} {
				v := api.Val{Kind: kind, I: n, S: strings.Repeat("s", size)}
				if val.May(v) != wantOfMay(v) {
					t.Error(kind, n, size)
				}
			}
		}
	}
	for _, v := range samples() {
		if val.May(v) != wantOfMay(v) {
			t.Error(v)
		}
	}
}

// P5.1: a Float's NaN becomes the one NaN, with what else there is as it was.
func TestClean(t *testing.T) {
	for _, bits := range nans() {
		if c := val.Clean(ofBits(bits)); c != ofBits(theNaN) {
			t.Errorf("%x: %v", bits, c)
		}
		v := api.Val{Kind: api.Float, I: int64(bits), S: "left"}
		if c := val.Clean(v); c != (api.Val{Kind: api.Float, I: int64(theNaN), S: "left"}) {
			t.Errorf("%x: %v", bits, c)
		}
	}
	for _, kind := range append(noKinds(), api.Null, api.Int, api.Text) {
		for _, bits := range nans() {
			v := api.Val{Kind: kind, I: int64(bits), S: "left"}
			if c := val.Clean(v); c != v {
				t.Error(v, c)
			}
		}
	}
}

// P5.1: all else stays, whether it may be or not; once is enough.
func TestCleanOfOthers(t *testing.T) {
	for _, v := range samples() {
		c := val.Clean(v)
		if v.Kind == api.Float && isNaN(v) {
			if uint64(c.I) != theNaN || c.Kind != v.Kind || c.S != v.S {
				t.Error(v, c)
			}
		} else if c != v {
			t.Error(v, c)
		}
		if val.Clean(c) != c || val.Compare(v, c) != 0 {
			t.Error(v, c)
		}
	}
}

// P5.1: the chapter's example, and others that are known.
func TestCompare(t *testing.T) {
	for _, c := range []struct {
		a, b api.Val
		want int
	}{
		{api.Val{}, num(-5), -1},
		{num(-5), api.Val{}, 1},
		{num(math.MaxInt64), float(math.Inf(-1)), -1},
		{ofBits(theNaN), text(""), -1},
		{api.Val{}, text(""), -1},
		{num(2), num(10), -1},
		{num(math.MinInt64), num(math.MaxInt64), -1},
		{num(math.MaxInt64), num(math.MinInt64), 1},
		{num(5), num(5), 0},
		{float(math.Copysign(0, -1)), float(0), -1},
		{float(-2), float(-1), -1},
		{float(-1), float(1), -1},
		{float(math.Inf(1)), ofBits(theNaN), -1},
		{float(math.Inf(1)), ofBits(sign | theNaN), -1},
		{ofBits(theNaN), ofBits(math.MaxUint64), 0},
		{text("2"), text("10"), 1},
		{text("a"), text("ab"), -1},
		{text("Z"), text("a"), -1},
		{text("z"), text("é"), -1},
		{text("\xFF"), text("\U0010FFFF"), 1},
		{text("\x7F"), text("\x80"), -1},
		{text("a\x00b"), text("a\x00c"), -1},
		{text("ab"), text("ab"), 0},

		// Only what the kind has is held against each other.
		{api.Val{I: 1, S: "b"}, api.Val{I: 2, S: "a"}, 0},
		{api.Val{Kind: api.Int, I: 3, S: "b"}, api.Val{Kind: api.Int, I: 3, S: "a"}, 0},
		{api.Val{Kind: api.Float, S: "b"}, api.Val{Kind: api.Float, S: "a"}, 0},
		{api.Val{Kind: api.Text, I: 9, S: "a"}, api.Val{Kind: api.Text, I: 3, S: "a"}, 0},
		{api.Val{Kind: api.Text, I: 9, S: "a"}, api.Val{Kind: api.Text, I: 3, S: "b"}, -1},
		{text(strings.Repeat("x", 5000)), text(strings.Repeat("x", 5000) + "y"), -1},

		// Kinds that are none of the four.
		{api.Val{Kind: -1, I: 9, S: "b"}, api.Val{}, -1},
		{api.Val{Kind: -1, I: 9, S: "b"}, api.Val{Kind: -1, I: 3, S: "a"}, 0},
		{api.Val{Kind: 4}, text("\xFF"), 1},
		{api.Val{Kind: 4, I: 3, S: "a"}, api.Val{Kind: 4, I: 9, S: "b"}, 0},
		{api.Val{Kind: 4, I: 9}, api.Val{Kind: 5, I: 3}, -1},
		{api.Val{Kind: math.MinInt}, api.Val{Kind: math.MaxInt}, -1},
		{api.Val{Kind: math.MaxInt}, api.Val{Kind: math.MinInt}, 1},
		{api.Val{Kind: math.MinInt}, api.Val{Kind: 1}, -1},
		{api.Val{Kind: 1 << 32}, api.Val{Kind: 0}, 1},
	} {
		if got := val.Compare(c.a, c.b); got != c.want {
			t.Error(c.a, c.b, got)
		}
	}
}

// P5.1 and P5.4: the values of the list stand in its order.
func TestCompareOfRising(t *testing.T) {
	l := rising()
	for i := range l {
		for j := range l {
			if got := val.Compare(l[i], l[j]); got != cmp.Compare(i, j) {
				t.Error(l[i], l[j], got)
			}
		}
	}
}

// P5.1: of any two, such that may not be among them.
func TestCompareOfAll(t *testing.T) {
	l := samples()
	for _, a := range l {
		for _, b := range l {
			if got := val.Compare(a, b); got != wantOfCompare(a, b) {
				t.Fatal(a, b, got)
			}
		}
	}
}

// P5.4: it is one order of all values: each pair one way only, and what is ahead of one is ahead of those behind it.
func TestCompareIsAnOrder(t *testing.T) {
	l := samples()
	order := make([][]int, len(l))
	for i, a := range l {
		for _, b := range l {
			order[i] = append(order[i], val.Compare(a, b))
		}
	}
	for i := range l {
		for j := range l {
			if order[i][j] != -order[j][i] {
				t.Fatal(l[i], l[j])
			}
			for k := range l {
				if order[i][j] <= 0 && order[j][k] <= 0 && order[i][k] != min(order[i][j], order[j][k]) {
					t.Fatal(l[i], l[j], l[k])
				}
			}
		}
	}
}

// P5.4: sorting takes the order, however the values stood.
func TestSorting(t *testing.T) {
	want := rising()
	for seed := range uint64(20) {
		l := slices.Clone(want)
		for i, n := range mixed(seed, len(l)) {
			j := int(n % uint64(i+1))
			l[i], l[j] = l[j], l[i]
		}
		slices.SortFunc(l, val.Compare)
		if !slices.Equal(l, want) {
			t.Error(seed, l)
		}
	}
}

// P5.4: values that may be are alike just where they are the same.
func TestAlikeIsTheSame(t *testing.T) {
	l := slices.DeleteFunc(samples(), func(v api.Val) bool { return !wantOfMay(v) })
	for _, a := range l {
		for _, b := range l {
			if (val.Compare(a, b) == 0) != (a == b) {
				t.Fatal(a, b)
			}
		}
	}
}

// P5.1 and R2: rows by the first values that are unlike, then the shorter one; nil and empty are the same.
func TestRows(t *testing.T) {
	row := func(l ...api.Val) []api.Val { return l }
	for k, c := range []struct {
		a, b []api.Val
		want int
	}{
		{nil, nil, 0},
		{nil, row(), 0},
		{[]api.Val{}, nil, 0},
		{nil, row(api.Val{}), -1},
		{nil, row(num(-5)), -1},
		{row(api.Val{Kind: -1}), nil, 1},
		{row(num(1)), row(num(1)), 0},
		{row(num(1), text("a")), row(num(1), text("b")), -1},
		{row(num(2), text("a")), row(num(1), text("b")), 1},
		{row(num(1), num(2), num(3)), row(num(1), num(3), num(2)), -1},
		{row(num(1), num(3), num(2)), row(num(1), num(2), num(3)), 1},
		// One begins the other.
		{row(num(1)), row(num(1), api.Val{}), -1},
		{row(num(1), api.Val{Kind: -9}), row(num(1)), 1},
		{row(num(1), num(2)), row(num(1), num(2), num(0), num(0)), -1},
		// The shorter one is behind, if a value of it is.
		{row(num(2)), row(num(1), num(9)), 1},
		{row(num(1), num(9)), row(num(2)), -1},
		{row(text("")), row(num(9), num(9)), 1},
		// Values that aren't the same, but alike.
		{row(api.Val{S: "b"}, num(1)), row(api.Val{S: "a"}, num(2)), -1},
		{row(ofBits(theNaN), num(2)), row(ofBits(theNaN|1), num(1)), 1},
		{row(ofBits(theNaN)), row(ofBits(math.MaxUint64)), 0},
		{row(api.Val{Kind: 4, I: 2}), row(api.Val{Kind: 4, I: 1}), 0},
		{row(api.Val{Kind: 4, I: 2}), row(api.Val{Kind: 4, I: 1}, api.Val{}), -1},
	} {
		wasA, wasB := slices.Clone(c.a), slices.Clone(c.b)
		if got, back := val.Rows(c.a, c.b), val.Rows(c.b, c.a); got != c.want || back != -c.want {
			t.Error(k, got, back)
		}
		if !slices.Equal(c.a, wasA) || !slices.Equal(c.b, wasB) {
			t.Error(k, "a row has changed")
		}
	}
}

// wantOfRows is P5.1's words on rows.
func wantOfRows(a, b []api.Val) int {
	for i := 0; i < len(a) && i < len(b); i++ {
		if c := wantOfCompare(a[i], b[i]); c != 0 {
			return c
		}
	}
	return cmp.Compare(len(a), len(b))
}

// P5.1: rows of many lengths, of few values, so that many begin alike; the order of them is one, too.
func TestRowsOfAll(t *testing.T) {
	few := []api.Val{{}, num(-1), ofBits(theNaN), ofBits(theNaN | sign), text("a"), {Kind: -1, I: 1}}
	var rows [][]api.Val
	for i, n := range mixed(3, 120) {
		var row []api.Val
		for range i % 5 {
			row = append(row, few[n%uint64(len(few))])
			n /= uint64(len(few))
		}
		rows = append(rows, row)
	}
	for _, a := range rows {
		for _, b := range rows {
			ab := val.Rows(a, b)
			if ab != wantOfRows(a, b) || ab != -val.Rows(b, a) {
				t.Fatal(a, b, ab)
			}
			for _, c := range rows {
				if ab <= 0 && val.Rows(b, c) <= 0 && val.Rows(a, c) > 0 {
					t.Fatal(a, b, c)
				}
			}
		}
	}
}

// P5.2: bytes that are known.
func TestBytes(t *testing.T) {
	long := strings.Repeat("x", api.MaxText)
	for _, c := range []struct {
		v    api.Val
		want []byte
	}{
		{api.Val{}, nil},
		{num(0), []byte{0}},
		{num(-1), []byte{1}},
		{num(1), []byte{2}},
		{num(63), []byte{126}},
		{num(-64), []byte{127}},
		{num(64), []byte{128, 1}},
		{num(150), []byte{172, 2}},
		{num(math.MaxInt64), append([]byte{254}, many(8, 255, 1)...)},
		{num(math.MinInt64), many(9, 255, 1)},
		{float(0), []byte{0x80, 0, 0, 0, 0, 0, 0, 0}},
		{ofBits(sign), []byte{0x7F, 255, 255, 255, 255, 255, 255, 255}},
		{float(-1), []byte{0x40, 0x0F, 255, 255, 255, 255, 255, 255}},
		{float(1), []byte{0xBF, 0xF0, 0, 0, 0, 0, 0, 0}},
		{ofBits(0x0102030405060708), []byte{0x81, 2, 3, 4, 5, 6, 7, 8}},
		{ofBits(exponent), []byte{0xFF, 0xF0, 0, 0, 0, 0, 0, 0}},
		{ofBits(sign | exponent), []byte{0, 0x0F, 255, 255, 255, 255, 255, 255}},
		{ofBits(theNaN), []byte{0xFF, 0xF8, 0, 0, 0, 0, 0, 0}},
		{text(""), []byte{0}},
		{text("hi"), []byte{2, 'h', 'i'}},
		{text("\x00\xFF"), []byte{2, 0, 255}},
		{text("é"), []byte{2, 0xC3, 0xA9}},
		{text(long), append([]byte{128, 8}, long...)},
	} {
		if b, e := val.Bytes(c.v); !slices.Equal(b, c.want) || e != api.OK {
			t.Error(c.v, b, e)
		}
	}
}

// P5.2 and R1: what may not be has no bytes.
func TestBytesOfWrong(t *testing.T) {
	for _, v := range wrong() {
		if b, e := val.Bytes(v); len(b) != 0 || e != api.ErrArg {
			t.Error(v, b, e)
		}
	}
}

// P5.2: what bytes begin with, and what stands behind it; or the error that is named first, and zero values.
func TestOf(t *testing.T) {
	long := strings.Repeat("x", api.MaxText)
	for k, c := range []struct {
		b    []byte
		kind int
		want api.Val
		rest []byte
		e    api.Errno
	}{
		{nil, api.Null, api.Val{}, nil, api.OK},
		{[]byte{}, api.Null, api.Val{}, nil, api.OK},
		{[]byte{128, 0}, api.Null, api.Val{}, []byte{128, 0}, api.OK},

		{[]byte{1}, api.Int, num(-1), nil, api.OK},
		{[]byte{0, 0}, api.Int, num(0), []byte{0}, api.OK},
		{[]byte{172, 2, 128, 0}, api.Int, num(150), []byte{128, 0}, api.OK},
		{many(9, 255, 1), api.Int, num(math.MinInt64), nil, api.OK},
		{append([]byte{254}, many(8, 255, 1, 7)...), api.Int, num(math.MaxInt64), []byte{7}, api.OK},
		{nil, api.Int, api.Val{}, nil, api.ErrShort},
		{[]byte{}, api.Int, api.Val{}, nil, api.ErrShort},
		{[]byte{128}, api.Int, api.Val{}, nil, api.ErrShort},
		{many(9, 255), api.Int, api.Val{}, nil, api.ErrShort},
		{[]byte{128, 0}, api.Int, api.Val{}, nil, api.ErrForm},
		{[]byte{172, 130, 0, 5}, api.Int, api.Val{}, nil, api.ErrForm},
		{many(9, 255, 2), api.Int, api.Val{}, nil, api.ErrForm},
		{many(12, 255), api.Int, api.Val{}, nil, api.ErrForm},

		{[]byte{0x80, 0, 0, 0, 0, 0, 0, 0}, api.Float, float(0), nil, api.OK},
		{[]byte{0x7F, 255, 255, 255, 255, 255, 255, 255, 9, 8}, api.Float, ofBits(sign), []byte{9, 8}, api.OK},
		{[]byte{0x81, 2, 3, 4, 5, 6, 7, 8, 9}, api.Float, ofBits(0x0102030405060708), []byte{9}, api.OK},
		{[]byte{0xFF, 0xF0, 0, 0, 0, 0, 0, 0}, api.Float, float(math.Inf(1)), nil, api.OK},
		{[]byte{0, 0x0F, 255, 255, 255, 255, 255, 255}, api.Float, float(math.Inf(-1)), nil, api.OK},
		{[]byte{0xFF, 0xF8, 0, 0, 0, 0, 0, 0, 1}, api.Float, ofBits(theNaN), []byte{1}, api.OK},
		{nil, api.Float, api.Val{}, nil, api.ErrShort},
		{[]byte{}, api.Float, api.Val{}, nil, api.ErrShort},
		{[]byte{1}, api.Float, api.Val{}, nil, api.ErrShort},
		{many(7, 0x80), api.Float, api.Val{}, nil, api.ErrShort},
		{many(7, 255), api.Float, api.Val{}, nil, api.ErrShort}, // no key, either: ErrShort is named first
		{many(8, 255), api.Float, api.Val{}, nil, api.ErrForm},
		{many(8, 0), api.Float, api.Val{}, nil, api.ErrForm},
		{many(12, 0), api.Float, api.Val{}, nil, api.ErrForm},
		{[]byte{0, 0x0F, 255, 255, 255, 255, 255, 254}, api.Float, api.Val{}, nil, api.ErrForm},
		{[]byte{0, 0x07, 255, 255, 255, 255, 255, 255}, api.Float, api.Val{}, nil, api.ErrForm}, // the NaN with its sign set
		{[]byte{0xFF, 0xF0, 0, 0, 0, 0, 0, 1}, api.Float, api.Val{}, nil, api.ErrForm},
		{[]byte{0xFF, 0xF7, 255, 255, 255, 255, 255, 255}, api.Float, api.Val{}, nil, api.ErrForm},
		{[]byte{0xFF, 0xF8, 0, 0, 0, 0, 0, 1}, api.Float, api.Val{}, nil, api.ErrForm},

		{[]byte{0}, api.Text, text(""), nil, api.OK},
		{[]byte{2, 'a', 'b', 'c'}, api.Text, text("ab"), []byte{'c'}, api.OK},
		{append([]byte{128, 8}, long...), api.Text, text(long), nil, api.OK},
		{append([]byte{128, 8}, long+"y"...), api.Text, text(long), []byte{'y'}, api.OK},
		{nil, api.Text, api.Val{}, nil, api.ErrShort},
		{[]byte{}, api.Text, api.Val{}, nil, api.ErrShort},
		{[]byte{128}, api.Text, api.Val{}, nil, api.ErrShort},
		{[]byte{2, 'a'}, api.Text, api.Val{}, nil, api.ErrShort},
		{append([]byte{128, 8}, long[1:]...), api.Text, api.Val{}, nil, api.ErrShort},
		{[]byte{130, 0, 'a', 'b'}, api.Text, api.Val{}, nil, api.ErrForm},
		{append([]byte{129, 8}, long+"y"...), api.Text, api.Val{}, nil, api.ErrRange},
		{[]byte{129, 8}, api.Text, api.Val{}, nil, api.ErrRange},
		{many(9, 255, 1), api.Text, api.Val{}, nil, api.ErrRange},
		{many(9, 255, 2), api.Text, api.Val{}, nil, api.ErrForm},
	} {
		was := slices.Clone(c.b)
		if v, rest, e := val.Of(c.b, c.kind); v != c.want || !slices.Equal(rest, c.rest) || e != c.e || !slices.Equal(c.b, was) {
			t.Error(k, v, rest, e)
		}
	}
}

// P5.2 and R1: a kind that is none of the four is ErrArg, whatever the bytes are.
func TestOfNoKind(t *testing.T) {
	for _, kind := range noKinds() {
		for _, b := range [][]byte{nil, {}, {1}, {128}, {128, 0}, many(8, 255), many(20, 1)} {
			if v, rest, e := val.Of(b, kind); v != (api.Val{}) || len(rest) != 0 || e != api.ErrArg {
				t.Error(kind, b, v, rest, e)
			}
		}
	}
}

// P5.4 and P2: what was laid down is read, whatever stands behind it; if it ends too early, it is not.
func TestBytesAreRead(t *testing.T) {
	for _, v := range samples() {
		b, e := val.Bytes(v)
		if !wantOfMay(v) {
			continue
		}
		if e != api.OK {
			t.Fatal(v, e)
		}
		for _, behind := range [][]byte{nil, {0}, {128}, {255, 255}} {
			if got, rest, e := val.Of(slices.Concat(b, behind), v.Kind); got != v || !slices.Equal(rest, behind) || e != api.OK {
				t.Fatal(v, got, rest, e)
			}
		}
		for i := range b {
			if got, rest, e := val.Of(b[:i], v.Kind); got != (api.Val{}) || len(rest) != 0 || e != api.ErrShort {
				t.Fatal(v, i, got, rest, e)
			}
		}
	}
}

// P5.4: values of all kinds, one behind the other, are read in turn.
func TestValuesInTurn(t *testing.T) {
	l := rising()
	var b []byte
	for _, v := range l {
		one, _ := val.Bytes(v)
		b = append(b, one...)
	}
	for _, want := range l {
		v, rest, e := val.Of(b, want.Kind)
		if v != want || e != api.OK {
			t.Fatal(want, v, e)
		}
		b = rest
	}
	if len(b) != 0 {
		t.Error(b)
	}
}

// P5.4: bytes of two Floats are in the order of their values.
func TestBytesOfFloatsAreInOrder(t *testing.T) {
	var l []api.Val
	for _, v := range samples() {
		if v.Kind == api.Float && wantOfMay(v) {
			l = append(l, v)
		}
	}
	for _, v := range l {
		for _, w := range l {
			a, e := val.Bytes(v)
			b, f := val.Bytes(w)
			if e != api.OK || f != api.OK || len(a) != 8 || bytes.Compare(a, b) != wantOfFloats(v, w) || bytes.Compare(a, b) != val.Compare(v, w) {
				t.Fatal(v, w, a, b)
			}
		}
	}
}

// P2: any bytes are taken or refused; what is taken may be, and is laid down as the very bytes.
func TestAnyBytes(t *testing.T) {
	taken := map[int]int{}
	for seed := range uint64(4000) {
		b := make([]byte, seed%13)
		for i, n := range mixed(seed, len(b)) {
			b[i] = byte(n)
			if seed%3 == 0 && i == 0 {
				b[i] %= 8 // short texts, which chance seldom makes
			}
		}
		for _, kind := range []int{api.Null, api.Int, api.Float, api.Text, -1, 4} {
			if readBack(t, b, kind) {
				taken[kind]++
			}
		}
	}
	if taken[api.Null] != 4000 || taken[api.Int] < 500 || taken[api.Float] < 500 || taken[api.Text] < 500 || taken[-1] != 0 || taken[4] != 0 {
		t.Error(taken)
	}
}

// readBack tells whether bytes were taken, and fails where they were wrongly.
func readBack(t *testing.T, b []byte, kind int) bool {
	was := slices.Clone(b)
	v, rest, e := val.Of(b, kind)
	if !slices.Equal(b, was) {
		t.Fatal("what was handed in has changed", b, was)
	}
	if e != api.OK {
		if v != (api.Val{}) || len(rest) != 0 {
			t.Fatal(b, kind, v, rest, e)
		}
		return false
	}
	again, f := val.Bytes(v)
	if v.Kind != kind || !wantOfMay(v) || f != api.OK || !slices.Equal(slices.Concat(again, rest), b) {
		t.Fatal(b, kind, v, rest, again)
	}
	return true
}

// R3: bytes that are told are the caller's own, those behind a value and those of a value.
func TestAnswersAreTheCallersOwn(t *testing.T) {
	for _, v := range []api.Val{{}, num(5), float(2.5), text("ab")} {
		one, _ := val.Bytes(v)
		other, _ := val.Bytes(v)
		room := slices.Concat(one, []byte{7, 8, 9})
		was := slices.Clone(room)
		b := room[:len(room)-1]
		_, rest, e := val.Of(b, v.Kind)
		_, again, _ := val.Of(b, v.Kind)
		if e != api.OK || !slices.Equal(rest, []byte{7, 8}) {
			t.Fatal(v, rest, e)
		}
		rest[1] = 99
		_ = append(rest, 98)
		if !slices.Equal(room, was) || !slices.Equal(again, []byte{7, 8}) {
			t.Error(v, "the bytes behind are shared", room, again)
		}
		room[len(room)-2] = 97
		if !slices.Equal(again, []byte{7, 8}) {
			t.Error(v, "what was handed in is shared", again)
		}
		for i := range one {
			one[i]++
		}
		if last, _ := val.Bytes(v); !slices.Equal(other, was[:len(was)-3]) || !slices.Equal(last, other) {
			t.Error(v, "two answers share", other, last)
		}
	}
}

// R3: with nothing behind, too, an answer that grows doesn't reach what was handed in; a text that was told stays.
func TestNothingBehindIsTheCallersOwn(t *testing.T) {
	for _, v := range []api.Val{{}, num(5), float(2.5), text("ab")} {
		one, _ := val.Bytes(v)
		room := append(slices.Clone(one), 9)
		got, rest, e := val.Of(room[:len(one)], v.Kind)
		_ = append(rest, 99)
		if e != api.OK || len(rest) != 0 || !slices.Equal(room, append(slices.Clone(one), 9)) {
			t.Error(v, rest, e, room)
		}
		clear(room)
		if got != v {
			t.Error(v, got)
		}
	}
}

// P5.3: sums that are known, at both ends, of both signs.
func TestAdd(t *testing.T) {
	const most, least = math.MaxInt64, math.MinInt64
	for _, c := range []struct {
		a, b, want int64
		e          api.Errno
	}{
		{0, 0, 0, api.OK},
		{1, 2, 3, api.OK},
		{-1, -2, -3, api.OK},
		{5, -7, -2, api.OK},
		{most, 0, most, api.OK},
		{least, 0, least, api.OK},
		{most - 1, 1, most, api.OK},
		{least + 1, -1, least, api.OK},
		{most, -1, most - 1, api.OK},
		{least, 1, least + 1, api.OK},
		{most, least, -1, api.OK},
		{most, -most, 0, api.OK},
		{1 << 62, 1<<62 - 1, most, api.OK},
		{-1 << 62, -1 << 62, least, api.OK},
		{most, 1, 0, api.ErrOverflow},
		{most, most, 0, api.ErrOverflow},
		{1 << 62, 1 << 62, 0, api.ErrOverflow},
		{least, -1, 0, api.ErrOverflow},
		{least, least, 0, api.ErrOverflow},
		{least, -most, 0, api.ErrOverflow},
		{-1 << 62, -1<<62 - 1, 0, api.ErrOverflow},
	} {
		if n, e := val.Add(c.a, c.b); n != c.want || e != c.e {
			t.Error(c.a, c.b, n, e)
		}
		if n, e := val.Add(c.b, c.a); n != c.want || e != c.e {
			t.Error(c.b, c.a, n, e)
		}
	}
}

// checkAdd holds a sum against that of numbers of any size.
func checkAdd(t *testing.T, a, b int64) {
	sum := new(big.Int).Add(big.NewInt(a), big.NewInt(b))
	n, e := val.Add(a, b)
	if sum.IsInt64() && (n != sum.Int64() || e != api.OK) || !sum.IsInt64() && (n != 0 || e != api.ErrOverflow) {
		t.Fatal(a, b, n, e)
	}
}

// P5.3: of numbers of all sizes, at both ends and around.
func TestAddOfAll(t *testing.T) {
	var l []int64
	for i := range 64 {
		l = append(l, 1<<i, 1<<i-1, -(1 << i), -(1<<i)-1)
	}
	for i, n := range mixed(4, 100) {
		l = append(l, int64(n)>>(i%64))
	}
	for _, a := range l {
		for _, b := range l {
			checkAdd(t, a, b)
		}
	}
}

// P1 and P5.1 to P5.4: any two values, and any bytes.
func FuzzVal(f *testing.F) {
	f.Add(1, int64(-5), "", 0, int64(0), "", []byte{172, 2, 7})
	f.Add(2, int64(math.MinInt64), "", 2, int64(exponent|1), "x", many(8, 255))
	f.Add(3, int64(0), "ab", 3, int64(0), "a", []byte{2, 'a', 'b', 'c'})
	f.Add(-1, int64(math.MaxInt64), "ab", 4, int64(1), "a", []byte{129, 8})
	f.Fuzz(func(t *testing.T, kind int, n int64, s string, other int, m int64, r string, b []byte) {
		v, w := api.Val{Kind: kind, I: n, S: s}, api.Val{Kind: other, I: m, S: r}
		if got := val.Compare(v, w); got != wantOfCompare(v, w) || val.Rows([]api.Val{v}, []api.Val{w}) != got {
			t.Fatal(v, w, got)
		}
		if val.May(v) != wantOfMay(v) || val.Compare(v, val.Clean(v)) != 0 {
			t.Fatal(v)
		}
		laid, e := val.Bytes(v)
		if wantOfMay(v) != (e == api.OK) {
			t.Fatal(v, laid, e)
		}
		if got, rest, f := val.Of(slices.Concat(laid, b), kind); e == api.OK && (got != v || !slices.Equal(rest, b) || f != api.OK) {
			t.Fatal(v, got, rest, f)
		}
		readBack(t, b, kind)
		readBack(t, b, other)
		checkAdd(t, n, m)
	})
}
