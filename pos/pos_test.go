package pos_test

import (
	"math"
	"slices"
	"testing"

	"astragal/api"
	"astragal/pos"
)

// ways are those that there are.
func ways() []int {
	return []int{api.RepRanges, api.RepBits, api.RepList}
}

// noWays are numbers of none.
func noWays() []int {
	return []int{0, 4, -1, 5, -2, -3, -4, 7, 255, 256, 257, 258, 259, 1 << 16, 1<<32 + 1, 1<<32 + 2, 1<<32 + 3, 1<<62 + 1, math.MaxInt, math.MinInt, math.MinInt + 1}
}

// sizes are how many numbers a set may be some of.
func sizes() []int {
	return []int{0, 1, 2, 3, 7, 8, 9, 31, 32, 33, 63, 64, 65, 127, 128, 129, 255, 256, 257, 1000, 4032, 4095, api.MaxRows}
}

// noSizes are numbers that no set is some of.
func noSizes() []int {
	return []int{-1, 4097, -2, -63, -64, -65, -4096, 4098, 4160, 8192, 1 << 16, 1 << 32, 1<<32 + 1, 1<<32 + 64, 1 << 62, math.MaxInt, math.MaxInt - 62, math.MinInt, math.MinInt + 1}
}

// mixed are numbers below most that look like chance, and are the same each time.
func mixed(seed uint64, n, most int) []int {
	l := make([]int, n)
	for i := range l {
		seed = seed*6364136223846793005 + 1442695040888963407
		l[i] = int(seed>>33) % most
	}
	return l
}

// below are the numbers from 0 to n less 1.
func below(n int) []int {
	l := make([]int, n)
	for i := range l {
		l[i] = i
	}
	return l
}

// sifted are those of the numbers below n that is holds of.
func sifted(n int, is func(at int) bool) []int {
	return slices.DeleteFunc(below(n), func(at int) bool { return !is(at) })
}

// rising are numbers, each once.
func rising(l []int) []int {
	l = slices.Clone(l)
	slices.Sort(l)
	return slices.Compact(l)
}

// lists are many sets of the numbers below n: each rises, and has no number twice.
func lists(n int) [][]int {
	l := [][]int{nil, below(n)}
	for _, at := range []int{0, 1, 62, 63, 64, 65, 127, 128, n / 2, n - 2, n - 1} {
		if 0 <= at && at < n {
			l = append(l, []int{at}, sifted(n, func(i int) bool { return i != at }))
			l = append(l, sifted(n, func(i int) bool { return i < at }), sifted(n, func(i int) bool { return i >= at }))
		}
	}
	for _, each := range []int{2, 3, 5, 64, 65} {
		l = append(l, sifted(n, func(i int) bool { return i%each == 0 }), sifted(n, func(i int) bool { return i%each != 0 }))
		l = append(l, sifted(n, func(i int) bool { return i/each%2 == 0 }), sifted(n, func(i int) bool { return i/each%2 != 0 }))
	}
	if n > 0 {
		l = append(l, rising(mixed(uint64(n), n/20+1, n)), rising(mixed(uint64(n)+1, n/3+1, n)), rising(mixed(uint64(n)+2, 2*n, n)))
	}
	return l
}

// fewLists are some of lists, but the more, the fewer numbers there are.
func fewLists(n int) [][]int {
	all := lists(n)
	each := 1 + n/50
	if each == 1 {
		return all
	}
	l := slices.Clone(all[:2])
	for i := 2 + n%3; i < len(all); i += min(each, 11) {
		l = append(l, all[i])
	}
	return append(l, all[len(all)-3:]...)
}

// outOfOrder are the same numbers, some of them twice or more often, in no order.
func outOfOrder(l []int) []int {
	if len(l) == 0 {
		return nil
	}
	var other []int
	for _, i := range mixed(uint64(len(l)), len(l)/2+3, len(l)) {
		other = append(other, l[i], l[len(l)-1-i])
	}
	back := slices.Clone(l)
	slices.Reverse(back)
	return slices.Concat(other, back, other[:1])
}

// places are such as are asked of a set: numbers that it may have, and those that it may not.
func places(n int) []int {
	l := []int{-1, -2, -63, -64, -65, -n, -n - 1, math.MinInt, math.MinInt + 1, -1 << 32, -1 << 31}
	l = append(l, n, n+1, n+62, n+63, n+64, n+65, 2*n+1, 4096, 4097, 8191, 1<<31-1, 1<<31, 1<<32, 1<<32+1, 1<<32+n/2, 1<<62, math.MaxInt-63, math.MaxInt-1, math.MaxInt)
	for at := range n {
		if n < 300 || at < 3 || at > n-3 || at%64 < 2 || at%64 > 61 || at%7 == 0 {
			l = append(l, at)
		}
	}
	return l
}

// of is a set that there is.
func of(t *testing.T, n int, l []int, rep int) pos.Set {
	t.Helper()
	s, e := pos.Of(n, l, rep)
	if e != api.OK {
		t.Fatal("no set", n, len(l), rep, e)
	}
	return s
}

// checkSet asks a set all that it tells.
func checkSet(t *testing.T, s pos.Set, n int, want []int, rep int) {
	t.Helper()
	checkList(t, s, n, want, rep)
	in := make([]bool, n)
	ahead := make([]int, n+1)
	for _, at := range want {
		in[at] = true
	}
	for at := range n {
		ahead[at+1] = ahead[at]
		if in[at] {
			ahead[at+1]++
		}
	}
	for _, at := range places(n) {
		has, rank := false, ahead[max(0, min(at, n))]
		if 0 <= at && at < n {
			has = in[at]
		}
		if s.Has(at) != has || s.Rank(at) != rank {
			t.Fatal(n, rep, at, s.Has(at), s.Rank(at), "want", has, rank)
		}
	}
}

// checkList asks a set of how many numbers it is some, in which way, and of which.
func checkList(t *testing.T, s pos.Set, n int, want []int, rep int) {
	t.Helper()
	if s.Len() != n || s.Rep() != rep || !slices.Equal(s.List(), want) {
		t.Fatal("Len", s.Len(), "Rep", s.Rep(), "List", s.List(), "want", n, rep, want)
	}
}

// checkNone asks whether what stands beside an error is a set that wasn't made by anyone.
func checkNone(t *testing.T, s pos.Set, e, want api.Errno) {
	t.Helper()
	if e != want {
		t.Fatal(e, "want", want)
	}
	checkSet(t, s, 0, nil, 0)
}

// P12.1 and P12.2: the chapter's example, in each way.
func TestExample(t *testing.T) {
	for _, rep := range ways() {
		s, e := pos.Of(6, []int{0, 1, 2, 5}, rep)
		if e != api.OK || !slices.Equal(s.List(), []int{0, 1, 2, 5}) || s.Rank(5) != 3 || s.Len() != 6 || s.Rep() != rep {
			t.Error(rep, s.List(), s.Rank(5), e)
		}
		if not := pos.Not(s); !slices.Equal(not.List(), []int{3, 4}) {
			t.Error(rep, not.List())
		}
	}
}

// P12.1: what a set tells, by hand.
func TestOfKnown(t *testing.T) {
	for _, rep := range ways() {
		s := of(t, 130, []int{129, 64, 63, 64, 0, 1, 129}, rep)
		checkSet(t, s, 130, []int{0, 1, 63, 64, 129}, rep)
		for _, c := range []struct {
			at   int
			has  bool
			rank int
		}{
			{math.MinInt, false, 0}, {-1, false, 0}, {0, true, 0}, {1, true, 1}, {2, false, 2}, {62, false, 2}, {63, true, 2}, {64, true, 3},
			{65, false, 4}, {127, false, 4}, {128, false, 4}, {129, true, 4}, {130, false, 5}, {131, false, 5}, {192, false, 5}, {math.MaxInt, false, 5},
		} {
			if s.Has(c.at) != c.has || s.Rank(c.at) != c.rank {
				t.Error(rep, c.at, s.Has(c.at), s.Rank(c.at))
			}
		}
	}
}

// P12.1: Of, in each way, of lists in whatever order, with numbers that are there twice.
func TestOf(t *testing.T) {
	for _, n := range sizes() {
		for _, l := range lists(n) {
			for _, rep := range ways() {
				for _, given := range [][]int{l, outOfOrder(l), append(outOfOrder(l), l...)} {
					was := slices.Clone(given)
					s, e := pos.Of(n, given, rep)
					if e != api.OK || !slices.Equal(given, was) {
						t.Fatal(n, rep, len(given), e)
					}
					checkList(t, s, n, l, rep)
				}
				checkSet(t, of(t, n, l, rep), n, l, rep)
			}
		}
	}
}

// P12.1, R2: no numbers, nil or empty, are the set of none.
func TestOfNone(t *testing.T) {
	for _, n := range sizes() {
		for _, rep := range ways() {
			for _, l := range [][]int{nil, {}, make([]int, 0, 5)} {
				s, e := pos.Of(n, l, rep)
				if e != api.OK {
					t.Fatal(n, rep, e)
				}
				checkSet(t, s, n, nil, rep)
			}
		}
	}
}

// P12.1: a long list has each of its numbers once.
func TestOfLongLists(t *testing.T) {
	for _, rep := range ways() {
		l := mixed(9, 1<<20, 4096)
		checkSet(t, of(t, 4096, l, rep), 4096, rising(l), rep)
		l = slices.Repeat([]int{4095, 7}, 1<<19)
		checkSet(t, of(t, 4096, l, rep), 4096, []int{7, 4095}, rep)
		if s, e := pos.Of(4096, append(l, 4096), rep); e != api.ErrRange {
			t.Error(rep, s.Len(), e)
		}
	}
}

// P12.1: All is Of of all numbers.
func TestAll(t *testing.T) {
	for _, n := range sizes() {
		for _, rep := range ways() {
			s, e := pos.All(n, rep)
			if e != api.OK {
				t.Fatal(n, rep, e)
			}
			checkSet(t, s, n, below(n), rep)
		}
	}
}

// P12.1: ErrArg of no way and of no such n, ahead of ErrRange.
func TestErrArg(t *testing.T) {
	given := [][]int{nil, {0}, {-1}, {5}, {4096}, {4097}, {math.MinInt}, {math.MaxInt}, {0, 1, -1}, {0, math.MaxInt}}
	for _, l := range given {
		for _, rep := range noWays() {
			for _, n := range append(sizes(), noSizes()...) {
				s, e := pos.Of(n, l, rep)
				checkNone(t, s, e, api.ErrArg)
				s, e = pos.All(n, rep)
				checkNone(t, s, e, api.ErrArg)
			}
		}
		for _, rep := range ways() {
			for _, n := range noSizes() {
				s, e := pos.Of(n, l, rep)
				checkNone(t, s, e, api.ErrArg)
				s, e = pos.All(n, rep)
				checkNone(t, s, e, api.ErrArg)
			}
		}
	}
}

// P12.1: ErrRange, wherever in the list a number stands that isn't below n, or is below 0.
func TestErrRange(t *testing.T) {
	for _, n := range sizes() {
		for _, wrong := range []int{n, n + 1, n + 63, n + 64, -1, -2, -64, -n - 1, 4097, 1 << 32, 1<<32 + n/2, -1 << 32, math.MaxInt, math.MinInt, math.MinInt + n/2} {
			for _, rep := range ways() {
				for _, l := range [][]int{nil, below(min(n, 5)), below(n), outOfOrder(below(min(n, 40)))} {
					for _, at := range []int{0, len(l) / 2, len(l)} {
						given := slices.Insert(slices.Clone(l), at, wrong)
						was := slices.Clone(given)
						s, e := pos.Of(n, given, rep)
						checkNone(t, s, e, api.ErrRange)
						if !slices.Equal(given, was) {
							t.Fatal(n, rep, "the list has changed")
						}
					}
				}
			}
		}
	}
}

// P12.1 and P12.3: To each way from each way is the same set; to no way it is ErrArg.
func TestTo(t *testing.T) {
	for _, n := range sizes() {
		for _, l := range fewLists(n) {
			for _, from := range ways() {
				s := of(t, n, l, from)
				for _, rep := range ways() {
					other, e := s.To(rep)
					if e != api.OK {
						t.Fatal(n, from, rep, e)
					}
					checkSet(t, other, n, l, rep)
					back, e := other.To(from)
					if e != api.OK {
						t.Fatal(n, from, rep, e)
					}
					checkSet(t, back, n, l, from)
				}
				for _, rep := range noWays() {
					other, e := s.To(rep)
					checkNone(t, other, e, api.ErrArg)
				}
				checkList(t, s, n, l, from)
			}
		}
	}
}

// wantAnd and wantOr are what And and Or tell of two sets' numbers.
func wantAnd(a, b []int) []int {
	return slices.DeleteFunc(slices.Clone(a), func(at int) bool {
		_, is := slices.BinarySearch(b, at)
		return !is
	})
}

func wantOr(a, b []int) []int {
	return rising(slices.Concat(a, b))
}

// P12.2: And and Or of each two ways, of sets by hand.
func TestAndOrKnown(t *testing.T) {
	for _, c := range []struct {
		n            int
		a, b         []int
		and, or, not []int
	}{
		{6, []int{0, 1, 2, 5}, []int{2, 3, 5}, []int{2, 5}, []int{0, 1, 2, 3, 5}, []int{3, 4}},
		{6, []int{0, 2, 4}, []int{1, 3, 5}, nil, []int{0, 1, 2, 3, 4, 5}, []int{1, 3, 5}},
		{6, nil, []int{1}, nil, []int{1}, []int{0, 1, 2, 3, 4, 5}},
		{6, []int{0, 1, 2, 3, 4, 5}, []int{1}, []int{1}, []int{0, 1, 2, 3, 4, 5}, nil},
		{66, []int{0, 63, 65}, []int{63, 64}, []int{63}, []int{0, 63, 64, 65}, append(below(63)[1:], 64)},
		{1, []int{0}, nil, nil, []int{0}, nil},
		{1, nil, nil, nil, nil, []int{0}},
		{0, nil, nil, nil, nil, nil},
	} {
		for _, rep := range ways() {
			checkSet(t, pos.Not(of(t, c.n, c.a, rep)), c.n, c.not, rep)
			for _, other := range ways() {
				checkBoth(t, of(t, c.n, c.a, rep), of(t, c.n, c.b, other), c.and, c.or)
			}
		}
	}
}

// checkBoth asks And and Or of two sets of as many numbers, the one ahead and the other.
func checkBoth(t *testing.T, a, b pos.Set, and, or []int) {
	t.Helper()
	for _, c := range []struct{ one, other pos.Set }{{a, b}, {b, a}} {
		s, e := pos.And(c.one, c.other)
		if e != api.OK {
			t.Fatal(e)
		}
		checkList(t, s, a.Len(), and, c.one.Rep())
		s, e = pos.Or(c.one, c.other)
		if e != api.OK {
			t.Fatal(e)
		}
		checkList(t, s, a.Len(), or, c.one.Rep())
	}
}

// P12.2: And and Or of each two ways, of sets of many numbers, with none, with all, and each with itself.
func TestAndOr(t *testing.T) {
	for _, n := range sizes() {
		few := fewLists(n)
		for i, l := range few {
			for j, m := range few[:i+1] {
				wantA, wantO := wantAnd(l, m), wantOr(l, m)
				for _, rep := range ways() {
					a := of(t, n, l, rep)
					for _, other := range ways() {
						b := of(t, n, m, other)
						checkBoth(t, a, b, wantA, wantO)
						checkList(t, b, n, m, other)
					}
					checkList(t, a, n, l, rep)
					if (i+j)%7 == 0 {
						b := of(t, n, m, rep%3+1)
						checkSet(t, and(t, a, b), n, wantA, rep)
						checkSet(t, or(t, a, b), n, wantO, rep)
					}
				}
			}
			for _, rep := range ways() {
				s := of(t, n, l, rep)
				checkBoth(t, s, s, l, l)
			}
		}
	}
}

// P12.2: And and Or of sets of unlike n: ErrArg, however alike their numbers.
func TestAndOrOfUnlike(t *testing.T) {
	for _, n := range sizes() {
		for _, m := range sizes() {
			if n == m {
				continue
			}
			for _, rep := range ways() {
				for _, other := range ways() {
					for _, many := range []int{0, min(n, m), max(n, m)} {
						a, b := of(t, n, below(min(n, many)), rep), of(t, m, below(min(m, many)), other)
						s, e := pos.And(a, b)
						checkNone(t, s, e, api.ErrArg)
						s, e = pos.Or(a, b)
						checkNone(t, s, e, api.ErrArg)
						checkList(t, a, n, below(min(n, many)), rep)
						checkList(t, b, m, below(min(m, many)), other)
					}
				}
			}
		}
	}
}

// P12.2: Not of none, of all, of some, and of Not.
func TestNot(t *testing.T) {
	for _, n := range sizes() {
		for _, l := range lists(n) {
			in := make([]bool, n)
			for _, at := range l {
				in[at] = true
			}
			want := sifted(n, func(at int) bool { return !in[at] })
			for _, rep := range ways() {
				s := of(t, n, l, rep)
				not := pos.Not(s)
				checkSet(t, not, n, want, rep)
				checkList(t, pos.Not(not), n, l, rep)
				checkList(t, s, n, l, rep)
			}
		}
	}
}

// P12.2: a set that wasn't made by anyone, in each call.
func TestUnmade(t *testing.T) {
	var s pos.Set
	checkSet(t, s, 0, nil, 0)
	checkSet(t, pos.Not(s), 0, nil, 0)
	checkSet(t, pos.Not(pos.Not(s)), 0, nil, 0)
	checkBoth(t, s, s, nil, nil)
	for _, rep := range noWays() {
		other, e := s.To(rep)
		checkNone(t, other, e, api.ErrArg)
	}
	for _, rep := range ways() {
		other, e := s.To(rep)
		if e != api.OK {
			t.Fatal(rep, e)
		}
		checkSet(t, other, 0, nil, rep)
		checkBoth(t, s, other, nil, nil)
		checkBoth(t, pos.Not(s), of(t, 0, nil, rep), nil, nil)
		all, _ := pos.All(0, rep)
		checkBoth(t, all, s, nil, nil)
		for _, n := range sizes() {
			if n == 0 {
				continue
			}
			for _, l := range [][]int{nil, {0}, below(n)} {
				for _, two := range [][2]pos.Set{{s, of(t, n, l, rep)}, {of(t, n, l, rep), s}} {
					none, e := pos.And(two[0], two[1])
					checkNone(t, none, e, api.ErrArg)
					none, e = pos.Or(two[0], two[1])
					checkNone(t, none, e, api.ErrArg)
				}
			}
		}
	}
}

// and and or are such of sets of as many numbers.
func and(t *testing.T, a, b pos.Set) pos.Set {
	t.Helper()
	s, e := pos.And(a, b)
	if e != api.OK {
		t.Fatal(e)
	}
	return s
}

func or(t *testing.T, a, b pos.Set) pos.Set {
	t.Helper()
	s, e := pos.Or(a, b)
	if e != api.OK {
		t.Fatal(e)
	}
	return s
}

// areSame asks whether two sets have the same numbers of as many.
func areSame(t *testing.T, rule string, a, b pos.Set) {
	t.Helper()
	if a.Len() != b.Len() || !slices.Equal(a.List(), b.List()) {
		t.Fatal(rule, a.Len(), a.List(), b.Len(), b.List())
	}
}

// P12.3: the rules of sets, of sets in whichever ways.
func TestRules(t *testing.T) {
	for _, n := range []int{0, 1, 2, 5, 63, 64, 65, 200, api.MaxRows} {
		few := fewLists(n)
		step := 1
		if n > 1000 {
			step = 5 // each of the three still has each way
		}
		for i := range few {
			for turn := 0; turn < 27; turn += step {
				ra, rb, rc := ways()[turn%3], ways()[turn/3%3], ways()[turn/9]
				a, b, c := of(t, n, few[i], ra), of(t, n, few[(i*3+turn)%len(few)], rb), of(t, n, few[(i+turn*5+1)%len(few)], rc)
				all, _ := pos.All(n, rb)
				none := of(t, n, nil, rc)
				areSame(t, "Not of And", pos.Not(and(t, a, b)), or(t, pos.Not(a), pos.Not(b)))
				areSame(t, "Not of Or", pos.Not(or(t, a, b)), and(t, pos.Not(a), pos.Not(b)))
				areSame(t, "Not of Not", pos.Not(pos.Not(a)), a)
				areSame(t, "a set or what isn't in it", or(t, a, pos.Not(a)), all)
				areSame(t, "a set and what isn't in it", and(t, a, pos.Not(a)), none)
				areSame(t, "Not of all", pos.Not(all), none)
				areSame(t, "Not of none", pos.Not(none), all)
				areSame(t, "And with all", and(t, a, all), a)
				areSame(t, "Or with none", or(t, a, none), a)
				areSame(t, "And with none", and(t, a, none), none)
				areSame(t, "Or with all", or(t, a, all), all)
				areSame(t, "And turned round", and(t, a, b), and(t, b, a))
				areSame(t, "Or turned round", or(t, a, b), or(t, b, a))
				areSame(t, "And of three", and(t, and(t, a, b), c), and(t, a, and(t, b, c)))
				areSame(t, "Or of three", or(t, or(t, a, b), c), or(t, a, or(t, b, c)))
				areSame(t, "And spread", and(t, a, or(t, b, c)), or(t, and(t, a, b), and(t, a, c)))
				areSame(t, "Or spread", or(t, a, and(t, b, c)), and(t, or(t, a, b), or(t, a, c)))
				areSame(t, "And taken in", or(t, a, and(t, a, b)), a)
				areSame(t, "Or taken in", and(t, a, or(t, a, b)), a)
				for _, at := range []int{0, 1, n / 2, n - 1, n} {
					if and(t, a, b).Rank(at)+or(t, a, b).Rank(at) != a.Rank(at)+b.Rank(at) || a.Rank(at)+pos.Not(a).Rank(at) != max(0, min(at, n)) {
						t.Fatal("Rank", n, at)
					}
				}
			}
		}
	}
}

// P12.3: a row of calls, one upon the other, tells the same in whichever ways.
func TestRowsOfCalls(t *testing.T) {
	for _, n := range []int{1, 64, 65, 300} {
		for seed := range uint64(60) {
			steps := mixed(seed, 24, 1<<20)
			start := rising(mixed(seed+100, n/2+1, n))
			want := start
			sets := []pos.Set{of(t, n, start, 1), of(t, n, start, 2), of(t, n, start, 3)}
			for k, step := range steps {
				with := rising(mixed(seed*100+uint64(k), n/3+1, n))
				switch step % 4 {
				case 0:
					want = wantAnd(want, wantOr(with, want[:len(want)/2]))
				case 1:
					want = wantOr(want, with)
				case 2:
					was := want
					want = sifted(n, func(at int) bool {
						_, is := slices.BinarySearch(was, at)
						return !is
					})
				}
				for i, s := range sets {
					other := of(t, n, with, (step>>2+i)%3+1)
					switch step % 4 {
					case 0:
						ahead := s.List()
						half := of(t, n, ahead[:len(ahead)/2], (step>>4+i)%3+1)
						sets[i] = and(t, s, or(t, other, half))
					case 1:
						sets[i] = or(t, s, other)
					case 2:
						sets[i] = pos.Not(s)
					default:
						sets[i], _ = s.To((s.Rep()+step>>6)%3 + 1)
						checkSet(t, sets[i], n, want, (s.Rep()+step>>6)%3+1)
						sets[i], _ = sets[i].To(s.Rep())
					}
					checkList(t, sets[i], n, want, i+1)
				}
			}
			for i, s := range sets {
				checkSet(t, s, n, want, i+1)
			}
		}
	}
}

// R3: a set is what it was, whatever becomes of the list it was made of, of the lists it told, and of sets that came of it.
func TestSetsAreTheCallersOwn(t *testing.T) {
	for _, n := range sizes() {
		for _, l := range fewLists(n) {
			for _, rep := range ways() {
				given := append(slices.Clone(l), l...)
				s := of(t, n, given, rep)
				copied := s
				want := map[string]pos.Set{"s": s, "copy": copied, "not of not": pos.Not(pos.Not(s)), "and": and(t, s, s), "or": or(t, s, s)}
				for _, other := range ways() {
					want["to "+string(rune('0'+other))], _ = s.To(other)
				}
				for i := range given {
					given[i] = -1
				}
				for range 2 {
					for _, name := range []string{"s", "copy", "not of not", "and", "or", "to 1", "to 2", "to 3"} {
						told := want[name].List()
						room := told[:cap(told)]
						for i := range room {
							room[i] = n - i
						}
						_ = append(told, 1, 2, 3)
					}
				}
				for name, set := range want {
					if set.Len() != n || !slices.Equal(set.List(), l) || set.Rank(n) != len(l) {
						t.Fatal(name, n, rep, set.List())
					}
				}
			}
		}
	}
}

// P1 and P12.1 to P12.3: any numbers of any n, in any ways.
func FuzzPos(f *testing.F) {
	f.Add(6, 1, 2, []byte{0, 1, 2, 5}, []byte{5, 3}, 5)
	f.Add(4096, 3, 1, []byte{0, 255, 128}, []byte{}, 4095)
	f.Add(-1, 0, 4, []byte{}, []byte{1}, -1)
	f.Add(64, 2, 2, []byte{63, 64}, []byte{63}, 64)
	f.Fuzz(func(t *testing.T, n, rep, other int, given, more []byte, at int) {
		spread := func(b []byte) []int {
			var l []int
			for i, c := range b {
				l = append(l, int(c)*(i%17+1))
			}
			return l
		}
		a, e := pos.Of(n, spread(given), rep)
		if want := wantE(n, spread(given), rep); e != want {
			t.Fatal(e, want)
		}
		if e != api.OK {
			checkNone(t, a, e, e)
		} else {
			checkSet(t, a, n, rising(spread(given)), rep)
		}
		b, e := pos.Of(n, spread(more), other)
		if want := wantE(n, spread(more), other); e != want {
			t.Fatal(e, want)
		}
		for _, s := range []pos.Set{a, b} {
			l, rank := s.List(), 0
			for _, i := range l {
				if i < at {
					rank++
				}
			}
			if s.Has(at) != slices.Contains(l, at) || s.Rank(at) != rank {
				t.Fatal(at, l, s.Has(at), s.Rank(at))
			}
			areSame(t, "Not of Not", pos.Not(pos.Not(s)), s)
		}
		if a.Len() != b.Len() {
			s, e := pos.And(a, b)
			checkNone(t, s, e, api.ErrArg)
			s, e = pos.Or(a, b)
			checkNone(t, s, e, api.ErrArg)
			return
		}
		checkBoth(t, a, b, wantAnd(a.List(), b.List()), wantOr(a.List(), b.List()))
		areSame(t, "Not of And", pos.Not(and(t, a, b)), or(t, pos.Not(a), pos.Not(b)))
	})
}

// wantE is Of's error.
func wantE(n int, l []int, rep int) api.Errno {
	if !slices.Contains(ways(), rep) || n < 0 || n > 4096 {
		return api.ErrArg
	}
	for _, at := range l {
		if at >= n {
			return api.ErrRange
		}
	}
	return api.OK
}
