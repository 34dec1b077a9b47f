package flt_test

import (
	"cmp"
	"math"
	"math/big"
	"slices"
	"testing"

	"astragal/flt"
)

const (
	sign     = uint64(1) << 63
	exponent = uint64(0x7FF) << 52
	fraction = uint64(1)<<52 - 1
	theNaN   = uint64(0x7FF8000000000000)
)

// mixed are numbers that look like chance, and are the same each time.
func mixed(seed uint64, n int) []uint64 {
	l := make([]uint64, n)
	for i := range l {
		seed = seed*6364136223846793005 + 1442695040888963407
		high := seed >> 32 << 32
		seed = seed*6364136223846793005 + 1442695040888963407
		l[i] = high | seed>>32
	}
	return l
}

// nans are NaNs of both signs: the least and the greatest fraction, each single bit of it, the one NaN among them, and any.
func nans() []uint64 {
	l := []uint64{theNaN, math.Float64bits(math.NaN()), exponent | fraction, math.MaxUint64}
	for i := range 52 {
		l = append(l, exponent|1<<i, sign|exponent|1<<i)
	}
	for _, n := range mixed(1, 50) {
		l = append(l, n|exponent|1)
	}
	return l
}

// rising are numbers' bits in the order of P4.1, no two of them alike, the one NaN last.
func rising() []uint64 {
	above := []float64{
		0, math.SmallestNonzeroFloat64, 2 * math.SmallestNonzeroFloat64,
		math.Float64frombits(fraction), math.Float64frombits(fraction + 1), // the greatest without a leading 1, the least with one
		1e-300, 0.25, 0.5, math.Nextafter(1, 0), 1, math.Nextafter(1, 2), 1.5, 2, 2.5, 3, 1e9,
		1<<53 - 1, 1 << 53, 1<<53 + 2, 1 << 62, 1 << 63, 1 << 64, 1e300, math.Nextafter(math.MaxFloat64, 0), math.MaxFloat64, math.Inf(1),
	}
	var l []uint64
	for _, f := range slices.Backward(above) {
		l = append(l, math.Float64bits(math.Copysign(f, -1)))
	}
	for _, f := range above {
		l = append(l, math.Float64bits(f))
	}
	return append(l, theNaN)
}

// samples are numbers of all kinds, and numbers like chance, some of them of few bits.
func samples() []uint64 {
	l := slices.Concat(rising(), nans(), []uint64{0, 1, 5, math.MaxUint64, math.MaxUint64 - 1, math.MaxInt64})
	for i, n := range mixed(2, 300) {
		l = append(l, n, n>>(i%64), n<<(i%64))
	}
	return l
}

// wantOfCompare is P4.3's words, of the numbers themselves: by value, -0 ahead of +0, NaNs alike and last.
func wantOfCompare(a, b uint64) int {
	x, y := math.Float64frombits(a), math.Float64frombits(b)
	switch {
	case math.IsNaN(x) && math.IsNaN(y):
		return 0
	case math.IsNaN(x):
		return 1
	case math.IsNaN(y):
		return -1
	case x == 0 && y == 0:
		return cmp.Compare(b>>63, a>>63)
	}
	return cmp.Compare(x, y)
}

// wantOfWhole is P4.2's words on a number, asked of it as a number of any size.
func wantOfWhole(bits uint64) (int64, bool) {
	f := math.Float64frombits(bits)
	if math.IsNaN(f) || math.IsInf(f, 0) {
		return 0, false
	}
	n, how := big.NewFloat(f).Int(nil)
	if how != big.Exact || n.CmpAbs(big.NewInt(1<<53)) > 0 {
		return 0, false
	}
	return n.Int64(), true
}

// The chapter's words: the one NaN.
func TestNan(t *testing.T) {
	if n := flt.Nan(); n != theNaN || !math.IsNaN(math.Float64frombits(n)) {
		t.Errorf("%x", n)
	}
}

// P4.1: every NaN becomes the one NaN.
func TestCleanOfNaNs(t *testing.T) {
	for _, n := range nans() {
		if c := flt.Clean(n); c != theNaN {
			t.Errorf("%x: %x", n, c)
		}
	}
}

// P4.1: what is no NaN stays as it is, infinities and both zeros, too.
func TestCleanOfOthers(t *testing.T) {
	for _, n := range samples() {
		if math.IsNaN(math.Float64frombits(n)) {
			continue
		}
		if c := flt.Clean(n); c != n {
			t.Errorf("%x: %x", n, c)
		}
	}
}

// P4.1: keys that are known.
func TestKey(t *testing.T) {
	for _, c := range []struct{ bits, want uint64 }{
		{0, 0x8000000000000000},
		{sign, 0x7FFFFFFFFFFFFFFF},
		{1, 0x8000000000000001},
		{sign | 1, 0x7FFFFFFFFFFFFFFE},
		{math.Float64bits(1), 0xBFF0000000000000},
		{math.Float64bits(-1), 0x400FFFFFFFFFFFFF},
		{math.Float64bits(2.5), 0xC004000000000000},
		{math.Float64bits(math.MaxFloat64), 0xFFEFFFFFFFFFFFFF},
		{math.Float64bits(-math.MaxFloat64), 0x0010000000000000},
		{exponent, 0xFFF0000000000000},
		{sign | exponent, 0x000FFFFFFFFFFFFF},
		{theNaN, 0xFFF8000000000000},
		{exponent | 1, 0xFFF8000000000000},
		{sign | exponent | 1, 0xFFF8000000000000},
		{sign | theNaN, 0xFFF8000000000000},
		{math.MaxInt64, 0xFFF8000000000000},
		{math.MaxUint64, 0xFFF8000000000000},
	} {
		if k := flt.Key(c.bits); k != c.want {
			t.Errorf("%x: %x", c.bits, k)
		}
	}
}

// P4.1: keys rise as the numbers stand in the order.
func TestKeysRise(t *testing.T) {
	l := rising()
	for i := range l[1:] {
		if a, b := flt.Key(l[i]), flt.Key(l[i+1]); a >= b {
			t.Errorf("%x %x: %x %x", l[i], l[i+1], a, b)
		}
	}
}

// P4.1: numbers that stand beside each other have keys that do, from the one infinity to the other.
func TestKeysAreBesideEachOther(t *testing.T) {
	for _, n := range samples() {
		f := math.Float64frombits(n)
		next := math.Float64bits(math.Nextafter(f, math.Inf(1)))
		if math.IsNaN(f) || math.IsInf(f, 1) || f == 0 {
			continue // of -0 the library has no +0 next
		}
		if k := flt.Key(n); flt.Key(next) != k+1 {
			t.Errorf("%x %x: %x", n, next, k)
		}
	}
}

// P4.1: bits of keys that are known, both ends and those of no clean number among them.
func TestBits(t *testing.T) {
	for _, c := range []struct{ key, want uint64 }{
		{0, theNaN},
		{1, theNaN},
		{0x0007FFFFFFFFFFFF, theNaN},
		{0x000FFFFFFFFFFFFE, theNaN},
		{0x000FFFFFFFFFFFFF, sign | exponent},
		{0x0010000000000000, math.Float64bits(-math.MaxFloat64)},
		{0x400FFFFFFFFFFFFF, math.Float64bits(-1)},
		{0x7FFFFFFFFFFFFFFE, sign | 1},
		{0x7FFFFFFFFFFFFFFF, sign},
		{0x8000000000000000, 0},
		{0x8000000000000001, 1},
		{0xBFF0000000000000, math.Float64bits(1)},
		{0xFFEFFFFFFFFFFFFF, math.Float64bits(math.MaxFloat64)},
		{0xFFF0000000000000, exponent},
		{0xFFF0000000000001, theNaN},
		{0xFFF8000000000000, theNaN},
		{math.MaxUint64, theNaN},
	} {
		if b := flt.Bits(c.key); b != c.want {
			t.Errorf("%x: %x", c.key, b)
		}
	}
}

// P4.3: there and back a number is Clean.
func TestThereAndBack(t *testing.T) {
	for _, n := range samples() {
		if b := flt.Bits(flt.Key(n)); b != flt.Clean(n) {
			t.Errorf("%x: %x", n, b)
		}
	}
}

// P4.1: any key there and back is itself, but that those of NaNs become the one NaN's.
func TestKeyThereAndBack(t *testing.T) {
	for _, k := range samples() {
		want := k
		if k < flt.Key(sign|exponent) || k > flt.Key(exponent) {
			want = flt.Key(theNaN)
		}
		b := flt.Bits(k)
		if flt.Key(b) != want || flt.Clean(b) != b {
			t.Errorf("%x: %x %x", k, b, flt.Key(b))
		}
	}
}

// P4.2: the chapter's examples, and others that are known.
func TestCompare(t *testing.T) {
	for _, c := range []struct {
		a, b uint64
		want int
	}{
		{sign, 0, -1},
		{0, sign, 1},
		{0, 0, 0},
		{sign, sign, 0},
		{theNaN, exponent, 1},
		{exponent, theNaN, -1},
		{sign | theNaN, sign | exponent, 1},
		{sign | theNaN, exponent, 1},
		{theNaN, math.MaxUint64, 0},
		{exponent | 1, sign | exponent | fraction, 0},
		{math.Float64bits(2), math.Float64bits(1), 1},
		{math.Float64bits(-2), math.Float64bits(-1), -1},
		{math.Float64bits(-1), math.Float64bits(1), -1},
		{sign | 1, sign, -1},
		{0, 1, -1},
		{sign | exponent, exponent, -1},
		{exponent, exponent, 0},
	} {
		if got := flt.Compare(c.a, c.b); got != c.want {
			t.Errorf("%x %x: %d", c.a, c.b, got)
		}
	}
}

// P4.2 and P4.3: Compare is as the keys are, and as the numbers are.
func TestCompareIsTheOrder(t *testing.T) {
	l := samples()
	for _, a := range l {
		for _, b := range l {
			got := flt.Compare(a, b)
			if got != cmp.Compare(flt.Key(a), flt.Key(b)) || got != wantOfCompare(a, b) {
				t.Fatalf("%x %x: %d", a, b, got)
			}
		}
	}
}

// P4.3: it is an order of all of them: each pair one way only, and what is ahead of one is ahead of those behind it.
func TestCompareIsAnOrder(t *testing.T) {
	l := slices.Concat(rising(), nans()[:20], mixed(3, 40))
	for _, a := range l {
		for _, b := range l {
			ab := flt.Compare(a, b)
			if ab != -flt.Compare(b, a) || ab == 0 != (flt.Clean(a) == flt.Clean(b)) {
				t.Fatalf("%x %x: %d", a, b, ab)
			}
			for _, c := range l {
				if ab <= 0 && flt.Compare(b, c) <= 0 && flt.Compare(a, c) > 0 {
					t.Fatalf("%x %x %x", a, b, c)
				}
			}
		}
	}
}

// P4.3: sorting takes it.
func TestSorting(t *testing.T) {
	want := rising()
	l := slices.Clone(want)
	slices.SortFunc(l, func(a, b uint64) int { return cmp.Compare(a*0x9E3779B97F4A7C15, b*0x9E3779B97F4A7C15) })
	slices.SortFunc(l, flt.Compare)
	if !slices.Equal(l, want) {
		t.Errorf("%x", l)
	}
}

// P4.2: whole numbers up to both ends, -0 among them.
func TestWhole(t *testing.T) {
	for _, want := range []int64{0, 1, 2, 3, 7, 255, 300, 1<<31 - 1, 1 << 31, 1<<52 - 1, 1 << 52, 1<<52 + 1, 1<<53 - 2, 1<<53 - 1, 1 << 53} {
		if n, is := flt.Whole(math.Float64bits(float64(want))); n != want || !is {
			t.Error(want, n, is)
		}
		if n, is := flt.Whole(math.Float64bits(-float64(want))); n != -want || !is {
			t.Error(-want, n, is)
		}
	}
	if n, is := flt.Whole(sign); n != 0 || !is {
		t.Error("-0:", n, is)
	}
}

// P4.2 and R1: what is no whole number within the bounds is 0 and false.
func TestNotWhole(t *testing.T) {
	past := math.Nextafter(1<<53, math.Inf(1))
	for _, f := range []float64{
		0.5, 2.5, 0.1, 1e-300, math.SmallestNonzeroFloat64, math.Nextafter(1, 0), math.Nextafter(1, 2), 1<<51 + 0.5, 1<<52 - 0.5,
		past, 1 << 54, 1 << 62, 1 << 63, 1 << 64, 1e300, math.MaxFloat64, math.Inf(1),
	} {
		for _, f := range []float64{f, -f} {
			if n, is := flt.Whole(math.Float64bits(f)); n != 0 || is {
				t.Error(f, n, is)
			}
		}
	}
	for _, bits := range nans() {
		if n, is := flt.Whole(bits); n != 0 || is {
			t.Errorf("%x: %d %t", bits, n, is)
		}
	}
}

// P4.2: of numbers of all kinds, and of whole ones and their halves.
func TestWholeOfAll(t *testing.T) {
	l := samples()
	for i, n := range mixed(4, 300) {
		f := float64(int64(n) >> (i % 64))
		l = append(l, math.Float64bits(f), math.Float64bits(f/2))
	}
	for _, bits := range l {
		want, isWant := wantOfWhole(bits)
		if n, is := flt.Whole(bits); n != want || is != isWant {
			t.Errorf("%x: %d %t", bits, n, is)
		}
	}
}

// P1, P4.1 to P4.3: any two numbers.
func FuzzFlt(f *testing.F) {
	f.Add(uint64(0), sign)
	f.Add(theNaN, exponent)
	f.Add(uint64(math.MaxUint64), math.Float64bits(2.5))
	f.Fuzz(func(t *testing.T, a, b uint64) {
		if got := flt.Compare(a, b); got != wantOfCompare(a, b) {
			t.Errorf("%x %x: %d", a, b, got)
		}
		if flt.Bits(flt.Key(a)) != flt.Clean(a) || flt.Clean(flt.Bits(b)) != flt.Bits(b) {
			t.Errorf("%x %x", a, b)
		}
		want, isWant := wantOfWhole(a)
		if n, is := flt.Whole(a); n != want || is != isWant {
			t.Errorf("%x: %d %t", a, n, is)
		}
	})
}
