package dict_test

import (
	"bytes"
	"cmp"
	"encoding/binary"
	"math"
	"slices"
	"strings"
	"testing"

	"astragal/api"
	"astragal/bits"
	"astragal/dict"
	"astragal/leb"
	"astragal/plain"
	"astragal/val"
)

const theNaN = 0x7FF8000000000000

func num(n int64) api.Val { return api.Val{Kind: api.Int, I: n} }

func ofBits(bits uint64) api.Val { return api.Val{Kind: api.Float, I: int64(bits)} }

func float(f float64) api.Val { return ofBits(math.Float64bits(f)) }

func text(s string) api.Val { return api.Val{Kind: api.Text, S: s} }

// texts are one for each letter.
func texts(letters string) []api.Val {
	var l []api.Val
	for _, r := range letters {
		l = append(l, text(string(r)))
	}
	return l
}

// nums are one for each number.
func nums(l ...int64) []api.Val {
	var all []api.Val
	for _, n := range l {
		all = append(all, num(n))
	}
	return all
}

// kinds are those that a column may have.
func kinds() []int {
	return []int{api.Int, api.Float, api.Text}
}

// noKinds are numbers below 1 and above 3.
func noKinds() []int {
	return []int{api.Null, -1, -2, -3, -256, math.MinInt, 4, 5, 7, 255, 256, 257, 259, 1<<32 + 1, math.MaxInt}
}

// mixed are numbers below most that look like chance, and are the same each time.
func mixed(seed uint64, n, most int) []int {
	l := make([]int, n)
	for i := range l {
		seed = seed*6364136223846793005 + 1442695040888963407
		l[i] = int(seed>>33) % most
	}
	return l
}

// values are such of a kind that may be, with their edges; no two are the same, and they don't rise.
func values(kind int) []api.Val {
	var l []api.Val
	switch kind {
	case api.Int:
		l = nums(5, 7, 0, -1, 1, 2, 63, 64, -64, -65, 300, 8191, 8192, 1<<31, 1<<32+5, math.MinInt64, math.MinInt64+1, math.MaxInt64)
	case api.Float:
		for _, f := range []float64{0, math.Copysign(0, -1), 1, -1, 2.5, -2.5, math.SmallestNonzeroFloat64, math.MaxFloat64, -math.MaxFloat64, math.Inf(1), math.Inf(-1)} {
			l = append(l, float(f))
		}
		l = append(l, ofBits(theNaN))
	case api.Text:
		for _, s := range []string{"b", "", "a", "A", "\x00", "\x00\x00", "\xFF", "ab", "é", "two words"} {
			l = append(l, text(s))
		}
		for _, size := range []int{127, 128, 1000, api.MaxText - 1, api.MaxText} {
			l = append(l, text(strings.Repeat("x", size)), text(strings.Repeat("\xFF", size)))
		}
	}
	return l
}

// wrong are values of a kind that may not be.
func wrong(kind int) []api.Val {
	long := strings.Repeat("x", api.MaxText+1)
	switch kind {
	case api.Int:
		return []api.Val{{Kind: kind, S: "x"}, {Kind: kind, I: 5, S: "\x00"}, {Kind: kind, I: -1, S: long}}
	case api.Float:
		return []api.Val{{Kind: kind, S: "x"}, {Kind: kind, I: theNaN, S: "x"}, ofBits(theNaN | 1), ofBits(theNaN | 1<<63), ofBits(0x7FF0000000000001), ofBits(math.MaxUint64)}
	}
	return []api.Val{{Kind: kind, I: 1}, {Kind: kind, I: -1, S: "a"}, text(long), {Kind: kind, I: 1, S: long}}
}

// others are values of any other kind than that, such that may be, and such that may not.
func others(kind int) []api.Val {
	l := []api.Val{{}, {I: 1}, {S: "x"}}
	for _, k := range kinds() {
		if k != kind {
			l = append(l, values(k)[:3]...)
			l = append(l, wrong(k)...)
		}
	}
	for _, k := range noKinds() {
		l = append(l, api.Val{Kind: k}, api.Val{Kind: k, I: 5}, api.Val{Kind: k, S: "x"})
	}
	return l
}

// parts are values of any Kind, I and S, many of which are alike, and no two the same.
func parts() []api.Val {
	var l []api.Val
	for _, kind := range []int{api.Text, 4, -1, api.Float, api.Null, 256, 257, 1<<32 + 1, math.MaxInt, math.MinInt, api.Int} {
		for _, i := range []int64{0, 1, -1, 1 << 32, 256, theNaN, theNaN | 1, math.MinInt64} {
			for _, s := range []string{"x", "", "X", "xx", "\x00", "x\x00", strings.Repeat("x", api.MaxText+1)} {
				l = append(l, api.Val{Kind: kind, I: i, S: s})
			}
		}
	}
	return l
}

// some are n values of a list, in no order.
func some(of []api.Val, n int) []api.Val {
	l := make([]api.Val, n)
	for i, k := range mixed(uint64(n*100+len(of)), n, len(of)) {
		l[i] = of[k]
	}
	return l
}

// unlike are n values of a kind, at most 2^14, no two of which are alike, in no order.
func unlike(n, kind int) []api.Val {
	l := make([]api.Val, n)
	for i := range l {
		at := i * 4099 % (1 << 14) // 4099 is odd: no place comes twice
		switch kind {
		case api.Int:
			l[i] = num(int64(at - 1<<13))
		case api.Float:
			l[i] = float(float64(at-1<<13) / 8)
		case api.Text:
			l[i] = text(strings.Repeat("t", at%5) + string(binary.AppendUvarint(nil, uint64(at))))
		}
	}
	return l
}

// columns are lists of values of a kind, with few words and many, up to the most.
func columns(kind int) [][]api.Val {
	all := values(kind)
	l := [][]api.Val{nil, {}, all, slices.Concat(all, all), slices.Repeat([]api.Val{all[0], all[1]}, 20)}
	for _, v := range all {
		l = append(l, []api.Val{v}, []api.Val{v, v}, []api.Val{v, v, all[0], all[1], v}, slices.Repeat([]api.Val{v}, 127))
	}
	for n := range 40 {
		l = append(l, some(all, n), some(all[:2], n), some(all[:1], n), some(all[:5], n), unlike(n, kind))
	}
	for _, n := range []int{64, 65, 128, 129, 256, 257, 2048, 2049} {
		few := unlike(n, kind)
		l = append(l, few, append(few, few[0], few[n/2], few[n-1]))
	}
	for _, n := range []int{api.MaxRows - 1, api.MaxRows} {
		l = append(l, some(all, n), some(unlike(300, kind), n), unlike(n, kind), slices.Repeat(all[:1], n))
	}
	return l
}

// wantWords is P9.1's words: of such that are alike the first one, each ahead of those that are above it.
func wantWords(l []api.Val) []api.Val {
	var words []api.Val
	for _, v := range l {
		at := 0
		for at < len(words) && val.Compare(words[at], v) < 0 {
			at++
		}
		if at == len(words) || val.Compare(words[at], v) != 0 {
			words = slices.Insert(words, at, v)
		}
	}
	return words
}

// wantCodes is P9.1's words on Codes.
func wantCodes(words, l []api.Val) ([]uint64, api.Errno) {
	var codes []uint64
	for _, v := range l {
		at := slices.IndexFunc(words, func(w api.Val) bool { return val.Compare(w, v) == 0 })
		if at < 0 {
			return nil, api.ErrNone
		}
		codes = append(codes, uint64(at))
	}
	return codes, api.OK
}

// wantBelow is P9.1's words on Below, from the other side.
func wantBelow(words []api.Val, v api.Val) int {
	return len(words) - len(slices.DeleteFunc(slices.Clone(words), func(w api.Val) bool { return val.Compare(v, w) == 1 }))
}

// wantOfCheck is P7.1's words, one by one.
func wantOfCheck(l []api.Val, kind int) api.Errno {
	if kind < 1 || kind > 3 {
		return api.ErrArg
	}
	if len(l) > 4096 {
		return api.ErrRange
	}
	if slices.ContainsFunc(l, func(v api.Val) bool { return v.Kind != kind }) {
		return api.ErrKind
	}
	if slices.ContainsFunc(l, func(v api.Val) bool { return !val.May(v) }) {
		return api.ErrArg
	}
	return api.OK
}

// wantWidth is the least width that all places of n words have room in.
func wantWidth(n int) int {
	w := 0
	for 1<<w < n {
		w++
	}
	return w
}

// laidValues are the bytes of values that may be, by the words of chapters 2, 4 and 5.
func laidValues(l []api.Val) []byte {
	var b []byte
	for _, v := range l {
		switch v.Kind {
		case api.Int:
			b = binary.AppendVarint(b, v.I)
		case api.Float:
			key := uint64(v.I) ^ 1<<63
			if v.I < 0 {
				key = ^uint64(v.I)
			}
			b = binary.BigEndian.AppendUint64(b, key)
		case api.Text:
			b = append(binary.AppendUvarint(b, uint64(len(v.S))), v.S...)
		}
	}
	return b
}

// laidCodes are the bits of codes, by the words of chapter 1.
func laidCodes(codes []uint64, width int) []byte {
	b := make([]byte, (len(codes)*width+7)/8)
	for i, c := range codes {
		for bit := range width {
			at := i*width + bit
			b[at/8] |= byte(c>>bit&1) << (at % 8)
		}
	}
	return b
}

// laidAs are the bytes of words and codes, whatever they are.
func laidAs(words []api.Val, codes []uint64) []byte {
	return slices.Concat(binary.AppendUvarint(nil, uint64(len(words))), laidValues(words), laidCodes(codes, wantWidth(len(words))))
}

// laid are the bytes of a column.
func laid(l []api.Val) []byte {
	words := wantWords(l)
	codes, _ := wantCodes(words, l)
	return laidAs(words, codes)
}

// wantToWords reads words, with val.Of of all that is left.
func wantToWords(b []byte, n, kind int) ([]api.Val, []byte, api.Errno) {
	many, size, e := leb.Get(b)
	if e != api.OK {
		return nil, nil, e
	}
	if many > uint64(n) {
		return nil, nil, api.ErrForm
	}
	b = b[size:]
	var words []api.Val
	for range many {
		v, rest, e := val.Of(b, kind)
		if e != api.OK {
			return nil, nil, e
		}
		words = append(words, v)
		b = rest
	}
	for i := 1; i < len(words); i++ {
		if val.Compare(words[i-1], words[i]) != -1 {
			return nil, nil, api.ErrForm
		}
	}
	return words, b, api.OK
}

// wantToCodes is P9.2's words on what is read, one by one.
func wantToCodes(b []byte, n, kind int) ([]api.Val, []uint64, api.Errno) {
	if kind < 1 || kind > 3 {
		return nil, nil, api.ErrArg
	}
	if n < 0 || n > 4096 {
		return nil, nil, api.ErrRange
	}
	words, rest, e := wantToWords(b, n, kind)
	if e != api.OK {
		return nil, nil, e
	}
	codes, e := bits.Unpack(rest, n, wantWidth(len(words)))
	if e != api.OK {
		return nil, nil, e
	}
	for _, c := range codes {
		if c >= uint64(len(words)) {
			return nil, nil, api.ErrForm
		}
	}
	for i := range words {
		if !slices.Contains(codes, uint64(i)) {
			return nil, nil, api.ErrForm
		}
	}
	return words, codes, api.OK
}

// ofCodes is the word of each code.
func ofCodes(words []api.Val, codes []uint64) []api.Val {
	var l []api.Val
	for _, c := range codes {
		l = append(l, words[c])
	}
	return l
}

// checkWords holds Words, and Codes and Below of them, against the chapter's words, and against what follows.
func checkWords(t *testing.T, l []api.Val) {
	t.Helper()
	was := slices.Clone(l)
	words := dict.Words(l)
	if !slices.Equal(words, wantWords(l)) || !slices.Equal(l, was) {
		t.Fatal(len(l), len(words))
	}
	codes, e := dict.Codes(words, l)
	if e != api.OK || len(codes) != len(l) || !slices.Equal(l, was) {
		t.Fatal(len(l), len(codes), e)
	}
	for i, c := range codes {
		if val.Compare(words[c], l[i]) != 0 {
			t.Fatal(i, c, words[c], l[i])
		}
	}
	for at, w := range words[:min(len(words), 50)] {
		if n := dict.Below(words, w); n != at {
			t.Fatal(at, w, n)
		}
	}
}

// checkCodes holds Codes and Below against the chapter's words, of any words and values.
func checkCodes(t *testing.T, words, l []api.Val) {
	t.Helper()
	wereWords, was := slices.Clone(words), slices.Clone(l)
	want, wantE := wantCodes(words, l)
	if codes, e := dict.Codes(words, l); !slices.Equal(codes, want) || e != wantE {
		t.Fatal(len(words), len(l), codes, want, e, wantE)
	}
	for _, v := range l {
		if n := dict.Below(words, v); n != wantBelow(words, v) {
			t.Fatal(len(words), v, n)
		}
	}
	if !slices.Equal(words, wereWords) || !slices.Equal(l, was) {
		t.Fatal("what was handed in has changed")
	}
}

// checkBytes holds Bytes against an error that is known, which plain has, too.
func checkBytes(t *testing.T, l []api.Val, kind int, want api.Errno) {
	t.Helper()
	was := slices.Clone(l)
	b, e := dict.Bytes(l, kind)
	if e != want || plain.Check(l, kind) != want || want != api.OK && len(b) != 0 || !slices.Equal(l, was) {
		t.Error(len(l), kind, len(b), e, want)
	}
	if e == api.OK && !slices.Equal(b, laid(l)) {
		t.Error(len(l), kind, len(b))
	}
}

// checkOf holds what is read against the chapter's words, and tells whether it was taken.
func checkOf(t *testing.T, b []byte, n, kind int) bool {
	t.Helper()
	was := slices.Clone(b)
	wantW, wantC, wantE := wantToCodes(b, n, kind)
	words, codes, e := dict.ToCodes(b, n, kind)
	if !slices.Equal(words, wantW) || !slices.Equal(codes, wantC) || e != wantE {
		t.Fatal(b, n, kind, len(words), len(codes), e, wantE)
	}
	l, e := dict.Of(b, n, kind)
	if !slices.Equal(l, ofCodes(wantW, wantC)) || e != wantE || !slices.Equal(b, was) {
		t.Fatal(b, n, kind, len(l), e, wantE)
	}
	if e != api.OK {
		return false
	}
	if again, e := dict.Bytes(l, kind); len(l) != n || !slices.Equal(again, b) || e != api.OK {
		t.Fatal(b, n, kind, len(l), again, e)
	}
	if !slices.Equal(dict.Words(l), words) {
		t.Fatal(b, n, kind, words)
	}
	return true
}

// checkRefused holds ToCodes and Of against an error that is known, with zero values.
func checkRefused(t *testing.T, b []byte, n, kind int, want api.Errno) {
	t.Helper()
	if words, codes, e := dict.ToCodes(b, n, kind); len(words) != 0 || len(codes) != 0 || e != want {
		t.Error("ToCodes", len(b), n, kind, len(words), len(codes), e, want)
	}
	if l, e := dict.Of(b, n, kind); len(l) != 0 || e != want {
		t.Error("Of", len(b), n, kind, len(l), e, want)
	}
}

// P9.1: the example, and others that are known.
func TestWords(t *testing.T) {
	none := api.Val{}
	for k, c := range []struct {
		l, words []api.Val
		codes    []uint64
	}{
		{texts("bab"), texts("ab"), []uint64{1, 0, 1}},
		{nil, nil, nil},
		{[]api.Val{}, nil, nil},
		{nums(5), nums(5), []uint64{0}},
		{nums(5, 5, 5, 5), nums(5), []uint64{0, 0, 0, 0}},
		{nums(3, 1, 2), nums(1, 2, 3), []uint64{2, 0, 1}},
		{nums(1, 2, 3, 4), nums(1, 2, 3, 4), []uint64{0, 1, 2, 3}},
		{nums(4, 3, 2, 1), nums(1, 2, 3, 4), []uint64{3, 2, 1, 0}},
		{nums(2, -1, 2, 0, -1, 2), nums(-1, 0, 2), []uint64{2, 0, 2, 1, 0, 2}},
		{nums(math.MaxInt64, math.MinInt64, 0), nums(math.MinInt64, 0, math.MaxInt64), []uint64{2, 0, 1}},
		{[]api.Val{text("5"), float(5), num(5), none}, []api.Val{none, num(5), float(5), text("5")}, []uint64{3, 2, 1, 0}},
		{[]api.Val{none, none}, []api.Val{none}, []uint64{0, 0}},
		{[]api.Val{text("b"), text("ab"), text(""), text("a"), text("\xFF")}, []api.Val{text(""), text("a"), text("ab"), text("b"), text("\xFF")}, []uint64{3, 2, 0, 1, 4}},
		{[]api.Val{float(0), ofBits(theNaN), float(math.Copysign(0, -1)), float(math.Inf(1)), float(-1)}, []api.Val{float(-1), float(math.Copysign(0, -1)), float(0), float(math.Inf(1)), ofBits(theNaN)}, []uint64{2, 4, 1, 3, 0}},
		{[]api.Val{{Kind: 9}, {Kind: -9}, text("x"), none, {Kind: math.MinInt}}, []api.Val{{Kind: math.MinInt}, {Kind: -9}, none, text("x"), {Kind: 9}}, []uint64{4, 1, 3, 2, 0}},
	} {
		if words := dict.Words(c.l); !slices.Equal(words, c.words) {
			t.Error(k, words)
		}
		if codes, e := dict.Codes(c.words, c.l); !slices.Equal(codes, c.codes) || e != api.OK {
			t.Error(k, codes, e)
		}
	}
}

// P9.1: of values that are alike and not the same the first one of l is the word, wherever it stands.
func TestWordsOfWhatIsAlike(t *testing.T) {
	for k, c := range [][3]api.Val{
		{{}, {I: 1}, {S: "x"}},
		{{I: 1, S: "x"}, {I: 1, S: "y"}, {}},
		{{Kind: api.Int, I: 5}, {Kind: api.Int, I: 5, S: "x"}, {Kind: api.Int, I: 5, S: "a"}},
		{{Kind: api.Text, S: "x"}, {Kind: api.Text, I: 1, S: "x"}, {Kind: api.Text, I: -1, S: "x"}},
		{float(1), {Kind: api.Float, I: float(1).I, S: "x"}, {Kind: api.Float, I: float(1).I, S: "a"}},
		{ofBits(theNaN), ofBits(theNaN | 1), ofBits(math.MaxUint64)},
		{{Kind: 4}, {Kind: 4, I: 1}, {Kind: 4, I: -1, S: "x"}},
		{{Kind: -1, S: "x"}, {Kind: -1}, {Kind: -1, I: 7}},
	} {
		low, high := api.Val{Kind: math.MinInt}, api.Val{Kind: math.MaxInt}
		for turn := range 3 {
			a, b, d := c[turn], c[(turn+1)%3], c[(turn+2)%3]
			if val.Compare(a, b) != 0 || val.Compare(b, d) != 0 {
				t.Fatal(k, "aren't alike")
			}
			for _, l := range [][]api.Val{{a, b, d}, {a, d, b, a}, {high, a, low, b, d}, {a, high, b, low, d, a}} {
				words := dict.Words(l)
				if !slices.Contains(words, a) || slices.Contains(words, b) || slices.Contains(words, d) {
					t.Error(k, turn, words)
				}
				checkWords(t, l)
			}
			// Values that are alike have one code, and the first such word's.
			if codes, e := dict.Codes([]api.Val{high, b, d, a}, []api.Val{a, b, d}); !slices.Equal(codes, []uint64{1, 1, 1}) || e != api.OK {
				t.Error(k, turn, codes, e)
			}
			if n := dict.Below([]api.Val{b, low, d}, a); n != 1 {
				t.Error(k, turn, n)
			}
		}
	}
}

// P9.1: any Kind, I and S.
func TestWordsOfAnyValues(t *testing.T) {
	l := parts()
	for _, a := range l {
		for _, b := range l {
			// The text as other memory: it is its bytes that are told, not where they stand.
			b.S = strings.Clone(b.S)
			words, want := dict.Words([]api.Val{a, b}), []api.Val{a}
			switch val.Compare(a, b) {
			case -1:
				want = []api.Val{a, b}
			case 1:
				want = []api.Val{b, a}
			}
			if !slices.Equal(words, want) {
				t.Fatal(a, b, words)
			}
		}
	}
	checkWords(t, l)
	slices.Reverse(l)
	checkWords(t, l)
	for n := range 300 {
		checkWords(t, some(l, n))
	}
}

// P9.1 and P9.3: of all columns, and of values that none may have.
func TestWordsOfAll(t *testing.T) {
	for _, kind := range kinds() {
		for _, l := range columns(kind) {
			checkWords(t, l)
		}
		checkWords(t, slices.Concat(others(kind), wrong(kind), values(kind), wrong(kind)))
	}
}

// P9.1: Words, Codes and Below tell of more than 4096, too.
func TestWordsOfMany(t *testing.T) {
	for _, n := range []int{4096, 4097, 5000} {
		for _, kind := range kinds() {
			l := unlike(n, kind)
			checkWords(t, l)
			if words := dict.Words(l); len(words) != n || dict.Below(words, text("\xFF\xFF")) != n {
				t.Error(n, kind, len(words))
			}
		}
	}
	// Many times as many: each value can't be held against each word.
	many := make([]api.Val, 1<<19)
	for i := range many {
		many[i] = num(int64(i * 4099 % len(many)))
	}
	words := dict.Words(many)
	codes, e := dict.Codes(words, many)
	if len(words) != len(many) || len(codes) != len(many) || e != api.OK {
		t.Fatal(len(words), len(codes), e)
	}
	for i, c := range codes {
		if words[i].I != int64(i) || c != uint64(many[i].I) {
			t.Fatal(i, words[i], c)
		}
	}
}

// P9.1: words that don't rise, and such that are there twice: the first place; a value that is no word: no codes at all.
func TestCodes(t *testing.T) {
	for k, c := range []struct {
		words, l []api.Val
		want     []uint64
		e        api.Errno
	}{
		{texts("ab"), texts("bab"), []uint64{1, 0, 1}, api.OK},
		{nil, nil, nil, api.OK},
		{[]api.Val{}, []api.Val{}, nil, api.OK},
		{texts("ab"), nil, nil, api.OK},
		{texts("abc"), texts("b"), []uint64{1}, api.OK},
		{texts("cab"), texts("abc"), []uint64{1, 2, 0}, api.OK},
		{texts("cba"), texts("abc"), []uint64{2, 1, 0}, api.OK},
		{texts("aa"), texts("aa"), []uint64{0, 0}, api.OK},
		{texts("baab"), texts("abab"), []uint64{1, 0, 1, 0}, api.OK},
		{texts("cbabcac"), texts("abc"), []uint64{2, 1, 0}, api.OK},
		{nums(9, 9, 5, 5, 7, 9, 5, 7), nums(5, 7, 9), []uint64{2, 4, 0}, api.OK},
		{nums(1, 2, 3), nums(4), nil, api.ErrNone},
		{nums(1, 2, 3), nums(0), nil, api.ErrNone},
		{nums(1, 3), nums(2), nil, api.ErrNone},
		{nums(1, 3), nums(1, 3, 2), nil, api.ErrNone},
		{nums(1, 3), nums(2, 1, 3), nil, api.ErrNone},
		{nums(1, 3), nums(1, 2, 3), nil, api.ErrNone},
		{nil, nums(1), nil, api.ErrNone},
		{nil, []api.Val{{}}, nil, api.ErrNone},
		{nums(5), []api.Val{text("5")}, nil, api.ErrNone},
		{nums(5), []api.Val{float(5)}, nil, api.ErrNone},
		{[]api.Val{float(0)}, []api.Val{float(math.Copysign(0, -1))}, nil, api.ErrNone},
		{[]api.Val{{}}, nums(0), nil, api.ErrNone},
		{[]api.Val{{Kind: 7}}, []api.Val{{Kind: 8}}, nil, api.ErrNone},
		{[]api.Val{{Kind: 7}}, []api.Val{{Kind: 7, I: 3, S: "x"}}, []uint64{0}, api.OK},
	} {
		if codes, e := dict.Codes(c.words, c.l); !slices.Equal(codes, c.want) || e != c.e {
			t.Error(k, codes, e)
		}
		checkCodes(t, c.words, c.l)
	}
}

// P9.1: how many are below, of words that rise, that don't, and that are there twice.
func TestBelow(t *testing.T) {
	for k, c := range []struct {
		words []api.Val
		v     api.Val
		want  int
	}{
		{nil, num(5), 0},
		{[]api.Val{}, api.Val{}, 0},
		{texts("abc"), text("bb"), 2},
		{texts("abc"), text("a"), 0},
		{texts("abc"), text("b"), 1},
		{texts("abc"), text("c"), 2},
		{texts("abc"), text("d"), 3},
		{texts("abc"), text(""), 0},
		{texts("cab"), text("bb"), 2},
		{texts("cba"), text("b"), 1},
		{texts("dcba"), text("d"), 3},
		{nums(5, 5, 5), num(5), 0},
		{nums(5, 5, 5), num(6), 3},
		{nums(9, 1, 9, 1, 5, 1), num(5), 3},
		{nums(9, 1, 9, 1, 5, 1), num(9), 4},
		{nums(9, 1, 9, 1, 5, 1), num(math.MaxInt64), 6},
		{nums(math.MinInt64, math.MaxInt64), num(math.MinInt64), 0},
		{nums(math.MinInt64, math.MaxInt64), num(math.MaxInt64), 1},
		{nums(1, 2, 3), api.Val{}, 0},
		{nums(1, 2, 3), float(math.Inf(-1)), 3},
		{nums(1, 2, 3), api.Val{Kind: -1}, 0},
		{nums(1, 2, 3), api.Val{Kind: 4}, 3},
		{[]api.Val{{}, {Kind: 9}, num(1), text("a"), float(1)}, text(""), 3},
		{[]api.Val{{Kind: 9}, {Kind: 9, I: -5}, {Kind: 8}}, api.Val{Kind: 9}, 1},
		{[]api.Val{ofBits(theNaN | 1), float(math.Inf(1))}, ofBits(theNaN), 1},
	} {
		if n := dict.Below(c.words, c.v); n != c.want {
			t.Error(k, n)
		}
	}
}

// P9.1: any words, in any order, and any values.
func TestCodesOfAnyWords(t *testing.T) {
	all := parts()
	for size := range 120 {
		words := some(all, size)
		checkCodes(t, words, nil)
		checkCodes(t, words, words)
		checkCodes(t, words, some(all, size+1))
		for i := 0; i < len(all); i += 1 + size%7*8 {
			checkCodes(t, words, all[i:i+1])
		}
		if size > 0 {
			// One that has no place, ahead of those that have one, among them, and behind them.
			for _, at := range []int{0, size / 2, size} {
				l := slices.Insert(slices.Clone(words), at, api.Val{Kind: 77})
				if codes, e := dict.Codes(words, l); len(codes) != 0 || e != api.ErrNone {
					t.Fatal(size, at, codes, e)
				}
			}
		}
	}
	for _, kind := range kinds() {
		for size := range 30 {
			words := some(values(kind), size)
			checkCodes(t, words, values(kind))
			checkCodes(t, words, some(words, min(size, 1)*20))
		}
		twice := slices.Concat(unlike(4096, kind), unlike(5000, kind))
		if codes, e := dict.Codes(twice, unlike(5000, kind)); len(codes) != 5000 || codes[4095] != 4095 || codes[4096] != 8192 || e != api.OK {
			t.Error(kind, len(codes), e)
		}
	}
}

// P9.2: bytes that are known, laid down and read: with widths of 0, 1, 2, 3 and 12.
func TestBytes(t *testing.T) {
	key := []byte{0x80, 0, 0, 0, 0, 0, 0, 0} // of 0
	long := strings.Repeat("x", 1024)
	for k, c := range []struct {
		l    []api.Val
		kind int
		want []byte
	}{
		{texts("bab"), api.Text, []byte{2, 1, 'a', 1, 'b', 0b101}},
		{texts("bacb"), api.Text, []byte{3, 1, 'a', 1, 'b', 1, 'c', 0x61}},
		{texts("xx"), api.Text, []byte{1, 1, 'x'}},
		{nil, api.Int, []byte{0}},
		{[]api.Val{}, api.Float, []byte{0}},
		{nil, api.Text, []byte{0}},
		{nums(5), api.Int, []byte{1, 10}},
		{nums(0), api.Int, []byte{1, 0}},
		{slices.Repeat(nums(5), 4096), api.Int, []byte{1, 10}},
		{nums(5, -1), api.Int, []byte{2, 1, 10, 0b01}},
		{nums(-1, 5), api.Int, []byte{2, 1, 10, 0b10}},
		{nums(5, -1, 5, 5, -1, 5, 5, 5), api.Int, []byte{2, 1, 10, 0b11101101}},
		{nums(5, -1, 5, 5, -1, 5, 5, 5, 5), api.Int, []byte{2, 1, 10, 0b11101101, 1}},
		{nums(3, 1, 2), api.Int, []byte{3, 2, 4, 6, 0b01_00_10}},
		{nums(3, 1, 2, 4), api.Int, []byte{4, 2, 4, 6, 8, 0b11_01_00_10}},
		{nums(3, 1, 2, 4, 5), api.Int, []byte{5, 2, 4, 6, 8, 10, 0b01_000_010, 0b100_011_0}},
		{nums(math.MinInt64, 0), api.Int, []byte{2, 255, 255, 255, 255, 255, 255, 255, 255, 255, 1, 0, 0b10}},
		{[]api.Val{float(0), float(0)}, api.Float, append([]byte{1}, key...)},
		{[]api.Val{float(0), float(math.Copysign(0, -1))}, api.Float, slices.Concat([]byte{2, 0x7F, 255, 255, 255, 255, 255, 255, 255}, key, []byte{0b01})},
		{[]api.Val{ofBits(theNaN), float(0), ofBits(theNaN)}, api.Float, slices.Concat([]byte{2}, key, []byte{0xFF, 0xF8, 0, 0, 0, 0, 0, 0, 0b101})},
		{[]api.Val{text("")}, api.Text, []byte{1, 0}},
		{[]api.Val{text("y"), text(long), text("")}, api.Text, slices.Concat([]byte{3, 0, 128, 8}, []byte(long), []byte{1, 'y', 0b00_01_10})},
	} {
		if b, e := dict.Bytes(c.l, c.kind); !slices.Equal(b, c.want) || e != api.OK {
			t.Error(k, b, e)
		}
		if words, codes, e := dict.ToCodes(c.want, len(c.l), c.kind); !slices.Equal(words, wantWords(c.l)) || !slices.Equal(ofCodes(words, codes), c.l) || e != api.OK {
			t.Error(k, words, codes, e)
		}
		if l, e := dict.Of(c.want, len(c.l), c.kind); !slices.Equal(l, c.l) || e != api.OK {
			t.Error(k, l, e)
		}
	}
}

// P9.2: how many bytes the codes have, of so many words: the width is that of the greatest place.
func TestBytesHaveTheWidth(t *testing.T) {
	for words, width := range map[int]int{1: 0, 2: 1, 3: 2, 4: 2, 5: 3, 8: 3, 9: 4, 128: 7, 129: 8, 256: 8, 257: 9, 2048: 11, 2049: 12, 4095: 12, 4096: 12} {
		for _, kind := range kinds() {
			l := unlike(words, kind)
			l = append(l, slices.Repeat(l[:1], 4096-words)...)
			head := slices.Concat(leb.Put(uint64(words)), laidValues(wantWords(l)))
			b, e := dict.Bytes(l, kind)
			if !bytes.HasPrefix(b, head) || len(b) != len(head)+4096*width/8 || e != api.OK {
				t.Error(words, kind, len(b), len(head), e)
			}
			if got, e := dict.Of(b, 4096, kind); !slices.Equal(got, l) || e != api.OK {
				t.Error(words, kind, len(got), e)
			}
		}
	}
}

// P9.2: of all columns, leb.Put, val.Bytes of each word and bits.Pack of the codes, and as chapters 1, 2, 4 and 5 spell them.
func TestBytesOfAll(t *testing.T) {
	for _, kind := range kinds() {
		for k, l := range columns(kind) {
			words := dict.Words(l)
			want := leb.Put(uint64(len(words)))
			for _, w := range words {
				b, e := val.Bytes(w)
				if e != api.OK {
					t.Fatal(kind, k, w, e)
				}
				want = append(want, b...)
			}
			codes, _ := dict.Codes(words, l)
			packed, e := bits.Pack(codes, bits.Width(codes)) // the greatest place is a code
			if e != api.OK {
				t.Fatal(kind, k, e)
			}
			if b, e := dict.Bytes(l, kind); !slices.Equal(b, append(want, packed...)) || e != api.OK {
				t.Fatal(kind, k, len(b), e)
			}
			checkBytes(t, l, kind, api.OK)
		}
	}
}

// P9.2: plain.Check's errors of the kind, and of how many there are, ahead of those of the values.
func TestBytesRefusesKindsAndRows(t *testing.T) {
	for _, kind := range noKinds() {
		for _, l := range [][]api.Val{nil, {}, {{Kind: kind}}, nums(5, 5), texts("a"), make([]api.Val, api.MaxRows+1), slices.Repeat([]api.Val{{Kind: kind}}, api.MaxRows+1)} {
			checkBytes(t, l, kind, api.ErrArg)
		}
	}
	for _, kind := range kinds() {
		for _, n := range []int{api.MaxRows + 1, 2 * api.MaxRows, 16000} {
			l := slices.Repeat(values(kind)[:1], n) // one word, but too many values
			checkBytes(t, l, kind, api.ErrRange)
			checkBytes(t, unlike(n, kind), kind, api.ErrRange)
			checkBytes(t, make([]api.Val, n), kind, api.ErrRange)
			l[n-1] = wrong(kind)[0]
			checkBytes(t, l, kind, api.ErrRange)
		}
	}
}

// P9.2: plain.Check's errors of the values: another kind, Null among them, ahead of one that may not be, wherever they stand, and though it be alike to one that may be.
func TestBytesRefusesValues(t *testing.T) {
	for _, kind := range kinds() {
		good := values(kind)[0]
		for _, bad := range wrong(kind) {
			for _, l := range [][]api.Val{{bad}, {bad, bad}, {good, bad}, {bad, good}, {val.Clean(api.Val{Kind: kind, I: bad.I}), bad}, {good, good, bad, good}, append(slices.Repeat([]api.Val{good}, api.MaxRows-1), bad)} {
				checkBytes(t, l, kind, api.ErrArg)
			}
		}
		for _, other := range others(kind) {
			for _, l := range [][]api.Val{{other}, {other, other}, {good, other}, {other, good}, {good, good, other, good}, append(slices.Repeat([]api.Val{good}, api.MaxRows-1), other)} {
				checkBytes(t, l, kind, api.ErrKind)
			}
			for _, bad := range wrong(kind) {
				for _, l := range [][]api.Val{{other, bad}, {bad, other}, {good, bad, bad, good, other}} {
					checkBytes(t, l, kind, api.ErrKind)
				}
			}
		}
	}
}

// P9.2: of how many words there are: leb's errors, and more than n.
func TestToCodesRefusesNumbers(t *testing.T) {
	nine := bytes.Repeat([]byte{255}, 9)
	great := append(slices.Clone(nine), 1) // 2^64-1
	for k, c := range []struct {
		b []byte
		n int
		e api.Errno
	}{
		{nil, 0, api.ErrShort},
		{[]byte{}, 0, api.ErrShort},
		{nil, 1, api.ErrShort},
		{nil, 4096, api.ErrShort},
		{[]byte{128}, 0, api.ErrShort},
		{[]byte{255, 255}, 4096, api.ErrShort},
		{nine, 4096, api.ErrShort},

		{[]byte{128, 0}, 0, api.ErrForm}, // could be put in fewer
		{[]byte{129, 0, 10}, 1, api.ErrForm},
		{[]byte{129, 128, 0, 10}, 4096, api.ErrForm},
		{append(slices.Clone(nine), 2), 4096, api.ErrForm}, // its tenth byte is too great
		{append(slices.Clone(nine), 255), 4096, api.ErrForm},

		{[]byte{1}, 0, api.ErrForm}, // above n, and that ahead of the words' errors
		{[]byte{1, 10}, 0, api.ErrForm},
		{[]byte{1, 128}, 0, api.ErrForm},
		{[]byte{2, 10, 12, 1}, 1, api.ErrForm},
		{[]byte{5}, 4, api.ErrForm},
		{[]byte{128, 32}, 4095, api.ErrForm},
		{[]byte{129, 32}, 4096, api.ErrForm},
		{great, 4096, api.ErrForm},
		{great, 0, api.ErrForm},
		{[]byte{128, 128, 128, 128, 16, 10}, 4096, api.ErrForm},     // 2^32
		{[]byte{129, 128, 128, 128, 16, 10}, 1, api.ErrForm},        // 2^32+1
		{append(bytes.Repeat([]byte{128}, 9), 1), 1, api.ErrForm},   // 2^63
		{append(bytes.Repeat([]byte{255}, 8), 127), 1, api.ErrForm}, // 2^63-1

		{[]byte{128, 32}, 4096, api.ErrShort}, // as many as n: it's the words that are missing

		{[]byte{0}, 1, api.ErrForm}, // no word: no code is a place
		{[]byte{0}, 4096, api.ErrForm},
		{[]byte{0, 0}, 1, api.ErrForm},
		{[]byte{0, 0}, 0, api.ErrForm},
	} {
		checkRefused(t, c.b, c.n, api.Int, c.e)
		if _, _, e := wantToCodes(c.b, c.n, api.Int); e != c.e {
			t.Error(k, e)
		}
	}
}

// P9.2: of the words: val's errors of all of them, and only behind these that they don't rise.
func TestToCodesRefusesWords(t *testing.T) {
	key := []byte{0x80, 0, 0, 0, 0, 0, 0, 0} // of 0
	nine := bytes.Repeat([]byte{255}, 9)
	long := slices.Concat([]byte{128, 8}, bytes.Repeat([]byte{'x'}, 1024))
	for _, c := range []struct {
		b       []byte
		n, kind int
		e       api.Errno
	}{
		{[]byte{1}, 1, api.Int, api.ErrShort},
		{[]byte{1, 128}, 1, api.Int, api.ErrShort},
		{[]byte{2, 10}, 2, api.Int, api.ErrShort},
		{[]byte{2, 10, 255}, 2, api.Int, api.ErrShort},
		{append([]byte{1}, key[:7]...), 1, api.Float, api.ErrShort},
		{[]byte{1}, 1, api.Text, api.ErrShort},
		{[]byte{1, 2, 'a'}, 1, api.Text, api.ErrShort},
		{[]byte{2, 1, 'a'}, 2, api.Text, api.ErrShort},
		{[]byte{1, 128, 8, 'a'}, 1, api.Text, api.ErrShort}, // 1024 bytes should come
		{append([]byte{1}, long[:1025]...), 1, api.Text, api.ErrShort},

		{[]byte{1, 128, 0}, 1, api.Int, api.ErrForm}, // could be put in fewer
		{slices.Concat([]byte{1}, nine, []byte{2}), 1, api.Int, api.ErrForm},
		{append([]byte{1}, bytes.Repeat([]byte{255}, 8)...), 1, api.Float, api.ErrForm}, // no clean bits have that key
		{append([]byte{1}, make([]byte, 8)...), 1, api.Float, api.ErrForm},
		{[]byte{1, 128, 0}, 1, api.Text, api.ErrForm},
		{[]byte{2, 128, 0, 129, 8}, 2, api.Text, api.ErrForm}, // ahead of the error of the word behind it

		{[]byte{1, 129, 8}, 1, api.Text, api.ErrRange}, // a text of 1025
		{append([]byte{1, 129, 8}, make([]byte, 1025)...), 1, api.Text, api.ErrRange},
		{slices.Concat([]byte{1}, nine, []byte{1}), 1, api.Text, api.ErrRange},
		{[]byte{2, 0, 129, 8}, 2, api.Text, api.ErrRange},
		{[]byte{2, 129, 8, 128, 0}, 2, api.Text, api.ErrRange},

		{[]byte{2, 10, 10, 2}, 2, api.Int, api.ErrForm}, // alike
		{[]byte{2, 0, 0, 2}, 2, api.Int, api.ErrForm},
		{[]byte{2, 1, 'a', 1, 'a', 2}, 2, api.Text, api.ErrForm},
		{slices.Concat([]byte{2}, key, key, []byte{2}), 2, api.Float, api.ErrForm},
		{slices.Concat([]byte{2}, long, long, []byte{2}), 2, api.Text, api.ErrForm},
		{[]byte{3, 2, 4, 4, 0b10_01_00}, 3, api.Int, api.ErrForm},
		{[]byte{3, 2, 2, 4, 0b10_01_00}, 3, api.Int, api.ErrForm},
		{[]byte{3, 2, 4, 2, 0b10_01_00}, 3, api.Int, api.ErrForm},

		{[]byte{2, 12, 10, 2}, 2, api.Int, api.ErrForm}, // they fall
		{[]byte{2, 0, 1, 2}, 2, api.Int, api.ErrForm},   // 0 and -1
		{[]byte{2, 1, 'b', 1, 'a', 2}, 2, api.Text, api.ErrForm},
		{[]byte{2, 1, 'a', 0, 2}, 2, api.Text, api.ErrForm},
		{slices.Concat([]byte{2}, key, []byte{0x7F, 255, 255, 255, 255, 255, 255, 255, 2}), 2, api.Float, api.ErrForm},
		{[]byte{3, 2, 6, 4, 0b10_01_00}, 3, api.Int, api.ErrForm},
		{[]byte{3, 6, 2, 4, 0b10_01_00}, 3, api.Int, api.ErrForm},

		{[]byte{3, 12, 10}, 3, api.Int, api.ErrShort}, // val's error comes ahead, though words ahead of it fall
		{[]byte{3, 10, 10, 128}, 3, api.Int, api.ErrShort},
		{[]byte{3, 1, 'a', 1, 'a', 129, 8}, 3, api.Text, api.ErrRange},
		{[]byte{3, 1, 'b', 1, 'a', 2, 'c'}, 3, api.Text, api.ErrShort},

		{[]byte{2, 10, 10}, 2, api.Int, api.ErrForm}, // ahead of the codes' errors
		{[]byte{2, 12, 10}, 4096, api.Int, api.ErrForm},
		{[]byte{2, 1, 'a', 1, 'a'}, 2, api.Text, api.ErrForm},
		{[]byte{3, 2, 4, 4}, 3, api.Int, api.ErrForm},
	} {
		checkRefused(t, c.b, c.n, c.kind, c.e)
		if _, _, e := wantToCodes(c.b, c.n, c.kind); e != c.e {
			t.Error(c.b, c.n, c.kind, e)
		}
	}
}

// P9.2: of the codes: bits.Unpack's errors, one that is no place, and a word that is no one's.
func TestToCodesRefusesCodes(t *testing.T) {
	two, three, five := []byte{2, 2, 4}, []byte{3, 2, 4, 6}, []byte{5, 2, 4, 6, 8, 10}
	for k, c := range []struct {
		words, codes []byte
		n            int
		e            api.Errno
	}{
		{two, nil, 2, api.ErrShort},
		{two, []byte{0b10101010}, 9, api.ErrShort},
		{two, []byte{0}, 9, api.ErrShort}, // ahead of what the codes are
		{two, nil, 4096, api.ErrShort},
		{two, make([]byte, 511), 4096, api.ErrShort},
		{three, []byte{255}, 5, api.ErrShort},
		{five, []byte{255}, 5, api.ErrShort},

		{two, []byte{0b10, 0}, 2, api.ErrForm}, // too many bytes
		{two, []byte{0b10101010, 0}, 8, api.ErrForm},
		{two, []byte{0b10101010, 1, 0}, 9, api.ErrForm},
		{two, make([]byte, 513), 4096, api.ErrForm},
		{[]byte{1, 2}, []byte{0}, 1, api.ErrForm}, // of one word there are none
		{[]byte{1, 2}, []byte{1}, 9, api.ErrForm},

		{two, []byte{0b110}, 2, api.ErrForm}, // bits behind the last one
		{two, []byte{0b10000010}, 2, api.ErrForm},
		{two, []byte{0b01, 0b10}, 9, api.ErrForm},
		{three, []byte{0b01_10_01_00}, 3, api.ErrForm},
		{five, []byte{0b10_001_000, 0b1_100_011_0}, 5, api.ErrForm},

		{three, []byte{0b11_01_00}, 3, api.ErrForm}, // no place
		{three, []byte{0b11_10_01_00}, 4, api.ErrForm},
		{three, []byte{0b10_01_00_11}, 4, api.ErrForm},
		{three, []byte{0b11_11_11}, 3, api.ErrForm},
		{five, []byte{0b10_001_000, 0b101_011_0}, 5, api.ErrForm},
		{five, []byte{0b10_001_000, 0b100_011_0, 0b111}, 6, api.ErrForm},

		{two, []byte{0b00}, 2, api.ErrForm}, // a word that is no one's code
		{two, []byte{0b11}, 2, api.ErrForm},
		{two, []byte{255}, 8, api.ErrForm},
		{two, make([]byte, 512), 4096, api.ErrForm},
		{three, []byte{0b01_01_00}, 3, api.ErrForm}, // the last
		{three, []byte{0b10_10_00}, 3, api.ErrForm}, // one between
		{three, []byte{0b10_10_01}, 3, api.ErrForm}, // the first
		{five, []byte{0b10_001_000, 0b011_011_0}, 5, api.ErrForm},
		{five, []byte{0b01_001_001, 0b100_011_0}, 5, api.ErrForm},
	} {
		b := slices.Concat(c.words, c.codes)
		checkRefused(t, b, c.n, api.Int, c.e)
		if _, _, e := wantToCodes(b, c.n, api.Int); e != c.e {
			t.Error(k, e)
		}
	}
}

// P9.2: one code of a column is changed to each that it could be: such that are places, so that each word is still one's, are taken.
func TestToCodesOfEachCode(t *testing.T) {
	for many := 1; many < 18; many++ {
		words := dict.Words(unlike(many, api.Int))
		for n := many; n < many+3; n++ {
			codes := make([]uint64, n)
			for i := range codes {
				codes[i] = uint64(i % many)
			}
			for at := range codes {
				for c := range uint64(1) << wantWidth(many) {
					other := slices.Clone(codes)
					other[at] = c
					taken := c < uint64(many)
					for place := range many {
						taken = taken && slices.Contains(other, uint64(place))
					}
					if checkOf(t, laidAs(words, other), n, api.Int) != taken {
						t.Fatal(many, n, at, c)
					}
				}
			}
		}
	}
}

// P9.2: what is taken: no values, as many words as n, and the most of both.
func TestToCodesTakes(t *testing.T) {
	for k, c := range []struct {
		b     []byte
		n     int
		words []api.Val
		codes []uint64
	}{
		{[]byte{0}, 0, nil, nil},
		{[]byte{1, 10}, 1, nums(5), []uint64{0}},
		{[]byte{1, 10}, 3, nums(5), []uint64{0, 0, 0}},
		{[]byte{1, 10}, 4096, nums(5), make([]uint64, 4096)},
		{[]byte{2, 10, 12, 0b10}, 2, nums(5, 6), []uint64{0, 1}},
		{[]byte{2, 10, 12, 0b01}, 2, nums(5, 6), []uint64{1, 0}},
		{[]byte{2, 10, 12, 0b01}, 8, nums(5, 6), []uint64{1, 0, 0, 0, 0, 0, 0, 0}},
		{[]byte{2, 1, 0, 0b01}, 2, nums(-1, 0), []uint64{1, 0}},
		{[]byte{3, 2, 4, 6, 0b01_00_10}, 3, nums(1, 2, 3), []uint64{2, 0, 1}},
		{[]byte{3, 2, 4, 6, 0b01_00_10}, 4, nums(1, 2, 3), []uint64{2, 0, 1, 0}},
	} {
		if words, codes, e := dict.ToCodes(c.b, c.n, api.Int); !slices.Equal(words, c.words) || !slices.Equal(codes, c.codes) || e != api.OK {
			t.Error(k, words, len(codes), e)
		}
		if l, e := dict.Of(c.b, c.n, api.Int); !slices.Equal(l, ofCodes(c.words, c.codes)) || len(l) != c.n || e != api.OK {
			t.Error(k, len(l), e)
		}
	}
	for _, kind := range kinds() {
		if words, codes, e := dict.ToCodes([]byte{0}, 0, kind); len(words) != 0 || len(codes) != 0 || e != api.OK {
			t.Error(kind, words, codes, e)
		}
		if l, e := dict.Of([]byte{0}, 0, kind); len(l) != 0 || e != api.OK {
			t.Error(kind, l, e)
		}
	}
}

// P9.2: a kind that is none of the three is refused ahead of all else, an n that may not be ahead of what the bytes are.
func TestToCodesOrdersErrors(t *testing.T) {
	many := []int{0, 1, 2, api.MaxRows, -1, -4096, math.MinInt, api.MaxRows + 1, 1 << 32, 1<<32 + 1, math.MaxInt}
	for _, b := range [][]byte{nil, {}, {0}, {1, 10}, {2, 10}, {129, 32, 10}, {128, 0}, {128}, {2, 10, 10, 2}, {2, 10, 12, 2}} {
		for _, n := range many {
			for _, kind := range noKinds() {
				checkRefused(t, b, n, kind, api.ErrArg)
			}
			if n >= 0 && n <= api.MaxRows {
				continue
			}
			for _, kind := range kinds() {
				checkRefused(t, b, n, kind, api.ErrRange)
			}
		}
	}
}

// P9.3: what was laid down is read; with a byte more, something is wrong.
func TestBytesAreRead(t *testing.T) {
	for _, kind := range kinds() {
		for _, l := range columns(kind) {
			b, e := dict.Bytes(l, kind)
			if e != api.OK {
				t.Fatal(kind, len(l), e)
			}
			words, codes, e := dict.ToCodes(b, len(l), kind)
			if want, _ := dict.Codes(words, l); !slices.Equal(words, dict.Words(l)) || !slices.Equal(codes, want) || e != api.OK {
				t.Fatal(kind, len(l), len(words), len(codes), e)
			}
			if got, e := dict.Of(b, len(l), kind); !slices.Equal(got, l) || e != api.OK {
				t.Fatal(kind, len(l), len(got), e)
			}
			for _, n := range []int{0, len(words) - 1, len(words), len(l) - 1, len(l) + 1, len(l) + 8, api.MaxRows} {
				checkOf(t, b, n, kind)
			}
			for _, behind := range []byte{0, 1, 128, 255} {
				checkRefused(t, append(slices.Clone(b), behind), len(l), kind, api.ErrForm)
			}
		}
	}
}

// P9.3: codes are in the order of values.
func TestCodesAreInOrder(t *testing.T) {
	for _, kind := range kinds() {
		for _, l := range columns(kind) {
			b, _ := dict.Bytes(l, kind)
			_, codes, e := dict.ToCodes(b, len(l), kind)
			if len(codes) != len(l) || e != api.OK {
				t.Fatal(kind, len(l), len(codes), e)
			}
			for i := range l {
				for _, k := range []int{0, i / 2, max(i-1, 0), len(l) - 1 - i} {
					if cmp.Compare(codes[i], codes[k]) != val.Compare(l[i], l[k]) {
						t.Fatal(kind, l[i], l[k], codes[i], codes[k])
					}
				}
			}
		}
	}
	all := parts()
	codes, _ := dict.Codes(dict.Words(all), all)
	for i, v := range all {
		for k, w := range all {
			if cmp.Compare(codes[i], codes[k]) != val.Compare(v, w) {
				t.Fatal(v, w, codes[i], codes[k])
			}
		}
	}
}

// P9.2: a column's bytes, cut anywhere ahead of their end, end too early.
func TestOfWhatIsCut(t *testing.T) {
	for _, kind := range kinds() {
		for _, l := range columns(kind) {
			b := laid(l)
			step := 1
			if len(b) > 300 {
				step += len(b) / 20
			}
			for at := 0; at < len(b); at += step {
				checkRefused(t, b[:at:at], len(l), kind, api.ErrShort)
				// What stands behind the cut is not read, though there is room for it.
				checkRefused(t, b[:at], len(l), kind, api.ErrShort)
			}
			checkRefused(t, b[:len(b)-1], len(l), kind, api.ErrShort)
		}
	}
}

// P9.2: what comes behind many bytes, and what many bytes come behind, is read as by val.Of of all that is left.
func TestOfLongBytes(t *testing.T) {
	faults := [][]byte{{}, {0}, {128}, {128, 0}, {129, 8}, {128, 8}, {255, 7}, bytes.Repeat([]byte{255}, 10), append(bytes.Repeat([]byte{255}, 9), 1), bytes.Repeat([]byte{128}, 20)}
	for _, kind := range kinds() {
		for _, size := range []int{0, 1, 5, 11} {
			ahead := dict.Words(values(kind)[:size])
			for _, fault := range faults {
				for _, behind := range []int{0, 1, 8, 1022, 1023, 1024, 1025, 1026, 1033, 1034, 1035, 5000} {
					for _, fill := range []byte{0, 255} {
						b := slices.Concat([]byte{byte(size + 1)}, laidValues(ahead), fault, bytes.Repeat([]byte{fill}, behind))
						for _, n := range []int{size, size + 1, size + 2, api.MaxRows} {
							checkOf(t, b, n, kind)
						}
					}
				}
			}
		}
	}
}

// P2 and P9.3: any bytes are taken or refused; what is taken is laid down as the very bytes.
func TestOfAnyBytes(t *testing.T) {
	for _, kind := range kinds() {
		taken := 0
		for size := range 24 {
			for seed := range uint64(200) {
				b := make([]byte, size)
				for i, n := range mixed(seed*100+uint64(size), size, 1<<20) {
					// Small bytes more often, so that there are numbers and texts that end.
					b[i] = byte(n >> 12 >> (seed % 7))
				}
				for n := -1; n < size+9; n++ {
					if checkOf(t, b, n, kind) {
						taken++
					}
				}
			}
		}
		if kind != api.Float && taken < 100 {
			t.Error("too few were taken to tell", kind, taken)
		}
	}
}

// P9.2: of one and of two bytes all of them, and of five small ones.
func TestOfFewBytes(t *testing.T) {
	for _, kind := range kinds() {
		for pair := range 1 << 16 {
			b := []byte{byte(pair), byte(pair >> 8)}
			for n := range 4 {
				checkOf(t, b, n, kind)
				checkOf(t, b[:1], n, kind)
			}
		}
	}
	for _, kind := range []int{api.Int, api.Text} {
		taken := 0
		for digits := range 8 * 8 * 8 * 8 * 8 {
			var b []byte
			for i := range 5 {
				b = append(b, byte(digits>>(3*i)%8))
			}
			for n := range 9 {
				if checkOf(t, b, n, kind) {
					taken++
				}
			}
		}
		if taken < 50 {
			t.Error("too few were taken to tell", kind, taken)
		}
	}
}

// P9.3: a column's bytes with one of them changed are taken or refused as the chapter says.
func TestOfChangedBytes(t *testing.T) {
	for _, kind := range kinds() {
		for _, many := range []int{1, 2, 3, 5, 9} {
			l := append(slices.Clone(values(kind)[:many]), some(values(kind)[:many], 21)...)
			b := laid(l)
			for i := range b {
				for _, change := range []byte{1, 2, 3, 4, 16, 64, 128, 255} {
					other := slices.Clone(b)
					other[i] ^= change
					for n := len(l) - 2; n < len(l)+3; n++ {
						checkOf(t, other, n, kind)
					}
				}
			}
		}
	}
}

// P1 and P9.3: as many as there may be, of the greatest size, as one word and as many as there may be.
func TestTheMost(t *testing.T) {
	long := strings.Repeat("\xFF", api.MaxText-4)
	var longest []api.Val
	for i := range api.MaxRows {
		longest = append(longest, text(long+string(binary.BigEndian.AppendUint32(nil, uint32(i*4099)))))
	}
	for _, all := range [][]api.Val{longest, unlike(api.MaxRows, api.Int), unlike(api.MaxRows, api.Float)} {
		kind := all[0].Kind
		for _, l := range [][]api.Val{all, slices.Repeat(all[:1], api.MaxRows), slices.Repeat(all[:2], api.MaxRows/2)} {
			b, e := dict.Bytes(l, kind)
			if !slices.Equal(b, laid(l)) || e != api.OK {
				t.Error(kind, len(b), e)
			}
			if got, e := dict.Of(b, api.MaxRows, kind); !slices.Equal(got, l) || e != api.OK {
				t.Error(kind, len(got), e)
			}
		}
		// Far more bytes than they need: too many are left for the codes.
		words := dict.Words(all)
		b := slices.Concat(leb.Put(uint64(len(words))), laidValues(words), make([]byte, 1<<22))
		checkRefused(t, b, api.MaxRows, kind, api.ErrForm)
	}
}

// R4: what is told hangs on what was handed in alone, not on a map's order.
func TestAnswersAreTheSameAgain(t *testing.T) {
	for _, c := range [][]uint64{{0, 1, 2, 3, 4, 4}, {0, 1, 2, 3, 5, 4}, {0, 1, 2, 3, 3, 3}, {7, 6, 5, 0, 1, 2}} {
		b := laidAs(nums(1, 2, 3, 4, 5), c)
		want, wantE := dict.Of(b, len(c), api.Int)
		for range 200 {
			if l, e := dict.Of(b, len(c), api.Int); !slices.Equal(l, want) || e != wantE {
				t.Fatal(c, l, e)
			}
		}
	}
}

// R3: what Words and Codes tell is the caller's own, and what was handed in stays.
func TestWordsAreTheCallersOwn(t *testing.T) {
	for _, kind := range kinds() {
		for k, l := range columns(kind) {
			l = slices.Clone(l)
			was, want := slices.Clone(l), wantWords(l)
			words, again := dict.Words(l), dict.Words(l)
			codes, _ := dict.Codes(again, l)
			other, _ := dict.Codes(again, l)
			wantC := slices.Clone(other)
			for i := range words {
				words[i] = text("changed")
			}
			for i := range codes {
				codes[i] = 7777
			}
			_, _ = append(words, text("more")), append(codes, 1)
			if !slices.Equal(l, was) || !slices.Equal(again, want) || !slices.Equal(other, wantC) {
				t.Fatal(kind, k, "an answer is shared")
			}
			for i := range l {
				l[i] = api.Val{}
			}
			if !slices.Equal(again, want) {
				t.Fatal(kind, k, "an answer has changed")
			}
			for i := range again {
				again[i] = api.Val{}
			}
			if !slices.Equal(other, wantC) {
				t.Fatal(kind, k, "an answer has changed")
			}
		}
	}
}

// R3: what Bytes tells is the caller's own, and what was handed in stays.
func TestBytesAreTheCallersOwn(t *testing.T) {
	for _, kind := range kinds() {
		for k, l := range columns(kind) {
			was := slices.Clone(l)
			b, _ := dict.Bytes(l, kind)
			again, _ := dict.Bytes(l, kind)
			for i := range b {
				b[i]++
			}
			_ = append(b, 1)
			for i := range l {
				if l[i] != was[i] {
					t.Fatal(kind, k, "what was handed in has changed")
				}
				l[i] = api.Val{}
			}
			if !slices.Equal(again, laid(was)) {
				t.Fatal(kind, k, "an answer has changed")
			}
		}
	}
}

// R3: what ToCodes and Of tell is the caller's own: neither the bytes nor another answer change it, nor it them.
func TestOfIsTheCallersOwn(t *testing.T) {
	for _, kind := range kinds() {
		for k, want := range columns(kind) {
			b := append(laid(want), 7) // with room behind it, which an answer must not reach
			was := slices.Clone(b)
			words, codes, _ := dict.ToCodes(b[:len(b)-1], len(want), kind)
			sameWords, sameCodes, _ := dict.ToCodes(b[:len(b)-1], len(want), kind)
			got, _ := dict.Of(b[:len(b)-1], len(want), kind)
			again, _ := dict.Of(b[:len(b)-1], len(want), kind)
			for i := range words {
				words[i] = api.Val{}
			}
			for i := range codes {
				codes[i]++
			}
			for i := range got {
				got[i] = text("changed")
			}
			_, _, _ = append(words, api.Val{}), append(codes, 1), append(got, text("more"))
			if !slices.Equal(b, was) {
				t.Fatal(kind, k, "what was handed in has changed")
			}
			for i := range b {
				b[i]++
			}
			if !slices.Equal(again, want) || !slices.Equal(sameWords, wantWords(want)) || !slices.Equal(ofCodes(sameWords, sameCodes), want) {
				t.Fatal(kind, k, "an answer has changed")
			}
		}
	}
}

// P1 and P9.1 to P9.3: any bytes, any values and any words, of any kind and number.
func FuzzDict(f *testing.F) {
	f.Add([]byte{2, 1, 'a', 1, 'b', 5}, 3, 3, int64(0), "ab")
	f.Add([]byte{3, 2, 4, 6, 0x12}, 3, 1, int64(5), "")
	f.Add([]byte{1, 0x80, 0, 0, 0, 0, 0, 0, 0}, 1, 2, int64(1)<<62, "")
	f.Add([]byte{1, 129, 8}, 4097, 4, int64(1), "x")
	f.Add([]byte{128, 0}, -1, 0, int64(0), "")
	f.Fuzz(func(t *testing.T, b []byte, n, kind int, i int64, s string) {
		checkOf(t, b, n, kind)
		for _, k := range kinds() {
			checkOf(t, b, n, k)
			checkOf(t, b, len(b), k)
		}
		var mixture, ints, floats, some []api.Val
		for _, c := range b[:min(len(b), 400)] { // to hold each against each takes long of more
			mixture = append(mixture, api.Val{Kind: int(c % 5), I: i * int64(c&8), S: s[:min(len(s), int(c>>4))]})
			ints = append(ints, num(i+int64(c&3)))
			floats = append(floats, val.Clean(ofBits(uint64(i)+uint64(c&3))))
			some = append(some, text(s[:min(len(s), int(c&3))]))
		}
		one := []api.Val{{Kind: kind, I: i, S: s}}
		for _, l := range [][]api.Val{mixture, ints, floats, some, one} {
			checkWords(t, l)
			checkCodes(t, mixture, l)
			checkCodes(t, l, one)
			checkCodes(t, l, mixture[:len(mixture)/2])
			for _, k := range append(kinds(), kind) {
				e := wantOfCheck(l, k)
				checkBytes(t, l, k, e)
				if e == api.OK && !checkOf(t, laid(l), len(l), k) {
					t.Fatal(l, k)
				}
			}
		}
	})
}
