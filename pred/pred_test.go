package pred_test

import (
	"math"
	"slices"
	"strings"
	"testing"

	"astragal/api"
	"astragal/pred"
	"astragal/val"
)

func num(n int64) api.Val { return api.Val{Kind: api.Int, I: n} }

func text(s string) api.Val { return api.Val{Kind: api.Text, S: s} }

func float(f float64) api.Val { return api.Val{Kind: api.Float, I: int64(math.Float64bits(f))} }

func bitsOf(b uint64) api.Val { return api.Val{Kind: api.Float, I: int64(b)} }

// someNan are bits of a number that is none, and not those that Clean has of it.
func someNan() api.Val { return bitsOf(0x7FF8000000000123) }

// ops are the operations that there are.
func ops() []int {
	return []int{api.OpEq, api.OpNe, api.OpLt, api.OpLe, api.OpGt, api.OpGe, api.OpNull, api.OpNotNull}
}

// noOps are numbers of none.
func noOps() []int {
	return []int{0, 9, -1, -2, -7, -8, 10, 15, 16, 17, 255, 256, 257, 1 << 16, 1<<32 + 1, 1<<32 + 7, math.MaxInt, math.MinInt, math.MinInt + 1}
}

// rising are values that may be and aren't Null, of each kind in their order.
func rising() [][]api.Val {
	clean := val.Clean(someNan())
	return [][]api.Val{
		{num(math.MinInt64), num(-6), num(-1), num(0), num(1), num(5), num(1 << 40), num(math.MaxInt64)},
		{float(math.Inf(-1)), float(-1e300), float(-1.5), float(math.Copysign(0, -1)), float(0), float(5e-324), float(2), float(math.Inf(1)), clean},
		{text(""), text("\x00"), text("A"), text("a"), text("a\x00"), text("aa"), text("b"), text("\xff"), text(strings.Repeat("\xff", api.MaxText))},
	}
}

// values are those, Null, and some that may not be.
func values() []api.Val {
	l := slices.Concat(rising()...)
	return append(l,
		api.Val{}, api.Val{I: 1}, api.Val{S: "a"}, api.Val{I: -1, S: "b"},
		someNan(), bitsOf(0xFFF0000000000001), bitsOf(math.MaxUint64),
		api.Val{Kind: api.Int, I: 5, S: "a"}, api.Val{Kind: api.Float, S: "a"},
		api.Val{Kind: api.Text, I: 1, S: "a"}, text(strings.Repeat("a", api.MaxText+1)),
		api.Val{Kind: -1}, api.Val{Kind: 4}, api.Val{Kind: 4, I: 7, S: "x"}, api.Val{Kind: math.MaxInt}, api.Val{Kind: math.MinInt, I: 1},
	)
}

// mayBe tells, of an atom but for its Col, what the chapter's words say.
func mayBe(op int, v api.Val) bool {
	switch op {
	case api.OpNull, api.OpNotNull:
		return v == api.Val{}
	case api.OpEq, api.OpNe, api.OpLt, api.OpLe, api.OpGt, api.OpGe:
		return v.Kind != api.Null && val.May(v)
	}
	return false
}

// held tells what P13.1 says of Holds.
func held(op int, own, v api.Val) bool {
	null := v.Kind == api.Null
	if op == api.OpNull {
		return null
	}
	if op == api.OpNotNull {
		return !null
	}
	if null || v.Kind != own.Kind {
		return false
	}
	below, alike := val.Compare(v, own) < 0, val.Compare(v, own) == 0
	switch op {
	case api.OpEq:
		return alike
	case api.OpNe:
		return !alike
	case api.OpLt:
		return below
	case api.OpLe:
		return below || alike
	case api.OpGt:
		return !below && !alike
	case api.OpGe:
		return !below
	}
	return false
}

// mixed are numbers below most that look like chance, and are the same each time.
func mixed(seed uint64, n, most int) []int {
	l := make([]int, n)
	for i := range l {
		seed = seed*6364136223846793005 + 1442695040888963407
		l[i] = int(seed>>33) % most
	}
	return l
}

// someAtoms are atoms of few columns, operations and values, so that some are there more than once.
func someAtoms(seed uint64, n int, from []api.Val) []api.Atom {
	cols, kinds, at := mixed(seed, n, 4), mixed(seed+1, n, 10), mixed(seed+2, n, len(from))
	l := make([]api.Atom, n)
	for i := range l {
		l[i] = api.Atom{Col: cols[i], Op: kinds[i], Val: from[at[i]]}
	}
	return l
}

// someRow is a row of n values.
func someRow(seed uint64, n int, from []api.Val) []api.Val {
	row := make([]api.Val, n)
	for i, at := range mixed(seed, n, len(from)) {
		row[i] = from[at]
	}
	return row
}

// few are values that are often alike.
func few() []api.Val {
	return []api.Val{num(1), num(2), float(1), text("a"), {}, someNan(), val.Clean(someNan()), {I: 3}, {Kind: api.Int, I: 1, S: "x"}, {Kind: 4, I: 1}, {Kind: 4, I: 2}}
}

// P13.1: what may be.
func TestMay(t *testing.T) {
	for _, v := range values() {
		for _, op := range slices.Concat(ops(), noOps()) {
			for _, col := range []int{0, 1, 7, 8, 4096, math.MaxInt} {
				if is := pred.May(api.Atom{Col: col, Op: op, Val: v}); is != mayBe(op, v) {
					t.Error(col, op, v.Kind, v.I, is)
				}
			}
			for _, col := range []int{-1, -2, -8, math.MinInt} {
				if pred.May(api.Atom{Col: col, Op: op, Val: v}) {
					t.Error(col, op, v.Kind, v.I)
				}
			}
		}
	}
}

// P13.1: each case of what may be, in the chapter's own words.
func TestMayByHand(t *testing.T) {
	longest, longer := text(strings.Repeat("a", 1024)), text(strings.Repeat("a", 1025))
	for k, c := range []struct {
		a  api.Atom
		is bool
	}{
		{api.Atom{Op: 1, Val: num(0)}, true},
		{api.Atom{Op: 6, Val: text("")}, true},
		{api.Atom{Op: 3, Val: longest}, true},
		{api.Atom{Op: 3, Val: longer}, false},
		{api.Atom{Op: 2, Val: float(math.Copysign(0, -1))}, true},
		{api.Atom{Op: 2, Val: val.Clean(someNan())}, true},
		{api.Atom{Op: 2, Val: someNan()}, false},
		{api.Atom{Op: 7}, true},
		{api.Atom{Op: 8}, true},
		{api.Atom{Op: 7, Val: api.Val{I: 1}}, false},
		{api.Atom{Op: 8, Val: api.Val{S: "a"}}, false},
		{api.Atom{Op: 7, Val: num(0)}, false},
		{api.Atom{Op: 8, Val: text("")}, false},
		{api.Atom{Op: 1}, false},
		{api.Atom{Op: 6}, false},
		{api.Atom{Op: 1, Val: api.Val{Kind: 1, S: "a"}}, false},
		{api.Atom{Op: 1, Val: api.Val{Kind: 4}}, false},
		{api.Atom{}, false},
		{api.Atom{Op: 9}, false},
		{api.Atom{Op: 0, Val: num(1)}, false},
		{api.Atom{Op: 9, Val: num(1)}, false},
		{api.Atom{Col: -1, Op: 1, Val: num(1)}, false},
		{api.Atom{Col: -1, Op: 7}, false},
	} {
		if is := pred.May(c.a); is != c.is {
			t.Error(k, is)
		}
	}
}

// P13.1: the chapter's examples, and of each operation what it holds of around a value.
func TestHoldsByHand(t *testing.T) {
	for op, want := range [][3]bool{{}, {false, true, false}, {true, false, true}, {true, false, false}, {true, true, false}, {false, false, true}, {false, true, true}, {}, {true, true, true}, {}} {
		for _, row := range [][]api.Val{
			{num(4), num(5), num(6)},
			{num(math.MinInt64), num(5), num(math.MaxInt64)},
			{text("a"), text("aa"), text("b")},
			{float(-1), float(math.Copysign(0, -1)), float(0)},
			{float(math.Inf(1)), val.Clean(someNan()), api.Val{}},
			{float(math.Copysign(0, -1)), float(0), someNan()},
		} {
			for i, v := range row {
				if v.Kind == api.Null {
					continue
				}
				if is := pred.Holds(api.Atom{Op: op, Val: row[1]}, v); is != want[i] {
					t.Error(op, row[1], v, is)
				}
			}
		}
	}
	if !pred.Holds(api.Atom{Op: api.OpLt, Val: num(5)}, num(4)) || pred.Holds(api.Atom{Op: api.OpLt, Val: num(5)}, api.Val{}) || pred.Holds(api.Atom{Op: api.OpNe, Val: num(5)}, api.Val{}) {
		t.Error("the examples")
	}
	if !pred.Holds(api.Atom{Op: api.OpEq, Val: someNan()}, val.Clean(someNan())) {
		t.Error("two that are alike are not the same, and OpEq holds")
	}
}

// P13.1: of any two values, Null, of another kind, or such that may not be.
func TestHolds(t *testing.T) {
	for _, own := range values() {
		for _, v := range values() {
			for _, op := range slices.Concat(ops(), noOps()) {
				if is := pred.Holds(api.Atom{Col: -3, Op: op, Val: own}, v); is != held(op, own, v) {
					t.Error(op, own.Kind, own.I, v.Kind, v.I, is)
				}
			}
		}
	}
}

// P13.1: Null is told by the kind, and only OpNull holds of it.
func TestHoldsOfNull(t *testing.T) {
	for _, null := range []api.Val{{}, {I: 1}, {S: "a"}} {
		for _, own := range append(values(), null) {
			for _, op := range slices.Concat(ops(), noOps()) {
				if is := pred.Holds(api.Atom{Op: op, Val: own}, null); is != (op == api.OpNull) {
					t.Error(op, own.Kind, null, is)
				}
			}
		}
	}
}

// P13.1: a column doesn't matter to Holds.
func TestHoldsOfAnyColumn(t *testing.T) {
	for _, col := range []int{math.MinInt, -1, 0, 1, 8, math.MaxInt} {
		if a := (api.Atom{Col: col, Op: api.OpGe, Val: num(5)}); !pred.Holds(a, num(5)) || pred.Holds(a, num(4)) {
			t.Error(col)
		}
	}
}

// P13.1: All of none, of some, of all, and of columns that there aren't.
func TestAll(t *testing.T) {
	row := []api.Val{num(4), {}, text("a")}
	below, null, equal := api.Atom{Col: 0, Op: api.OpLt, Val: num(5)}, api.Atom{Col: 1, Op: api.OpNull}, api.Atom{Col: 2, Op: api.OpEq, Val: text("a")}
	false1, false2 := api.Atom{Col: 0, Op: api.OpGt, Val: num(4)}, api.Atom{Col: 2, Op: api.OpNull}
	for k, c := range []struct {
		l  []api.Atom
		is bool
	}{
		{nil, true}, {[]api.Atom{}, true},
		{[]api.Atom{below}, true}, {[]api.Atom{below, null, equal}, true}, {[]api.Atom{equal, equal, below}, true},
		{[]api.Atom{false1}, false}, {[]api.Atom{false1, below}, false}, {[]api.Atom{below, false1}, false},
		{[]api.Atom{below, false2, null}, false}, {[]api.Atom{{}}, false}, {[]api.Atom{below, {Op: 9}}, false},
	} {
		if is := pred.All(c.l, row); is != c.is {
			t.Error(k, is)
		}
	}
	if !pred.All(nil, nil) || !pred.All([]api.Atom{}, []api.Val{}) {
		t.Error("of no atoms and no row")
	}
	for _, col := range []int{-1, -2, -3, 3, 4, 8, 1 << 32, math.MaxInt, math.MinInt} {
		for _, op := range slices.Concat(ops(), noOps()) {
			for _, v := range []api.Val{{}, num(4), text("a")} {
				a := api.Atom{Col: col, Op: op, Val: v}
				if pred.All([]api.Atom{a}, row) || pred.All([]api.Atom{below, a}, row) || pred.All([]api.Atom{a}, nil) {
					t.Error(col, op, v)
				}
			}
		}
	}
}

// P13.1: All is Holds of each.
func TestAllIsHolds(t *testing.T) {
	both := 0
	for seed := range uint64(4000) {
		l, row := someAtoms(seed, int(seed%4), values()), someRow(seed+9, int(seed/4%6), few())
		want := true
		for _, a := range l {
			want = want && a.Col < len(row) && held(a.Op, a.Val, row[min(a.Col, len(row)-1)])
		}
		if is := pred.All(l, row); is != want {
			t.Fatal(seed, l, row, is)
		}
		if want && len(l) > 0 {
			both++
		}
	}
	if both == 0 {
		t.Error("no list held")
	}
}

// P13.2: each error of Check, those that come together, and in turn.
func TestCheck(t *testing.T) {
	kinds := []int{api.Int, api.Text, api.Float, api.Null, 4}
	ok, arg, far, other := api.Atom{Op: api.OpEq, Val: num(1)}, api.Atom{Op: 9}, api.Atom{Col: 5, Op: api.OpNull}, api.Atom{Col: 1, Op: api.OpEq, Val: num(1)}
	for k, c := range []struct {
		l []api.Atom
		e api.Errno
	}{
		{nil, api.OK}, {[]api.Atom{}, api.OK},
		{[]api.Atom{ok}, api.OK}, {[]api.Atom{arg}, api.ErrArg}, {[]api.Atom{far}, api.ErrRange}, {[]api.Atom{other}, api.ErrKind},
		{[]api.Atom{ok, ok}, api.OK}, {[]api.Atom{ok, arg}, api.ErrArg}, {[]api.Atom{ok, far}, api.ErrRange}, {[]api.Atom{ok, other}, api.ErrKind},
		{[]api.Atom{other, far, arg}, api.ErrKind}, {[]api.Atom{far, arg, other}, api.ErrRange}, {[]api.Atom{arg, other, far}, api.ErrArg},
		{[]api.Atom{other, arg}, api.ErrKind}, {[]api.Atom{far, other}, api.ErrRange},
		// of one atom: it may not be and there is no such column; there is none, of which its kind could be
		{[]api.Atom{{Col: 5, Op: 9, Val: num(1)}}, api.ErrArg},
		{[]api.Atom{{Col: math.MinInt, Op: api.OpEq, Val: num(1)}}, api.ErrArg},
		{[]api.Atom{{Col: -1, Op: api.OpNull}}, api.ErrArg},
		{[]api.Atom{{Col: 1, Op: 0, Val: num(1)}}, api.ErrArg},
		{[]api.Atom{{Col: 1, Op: api.OpEq}}, api.ErrArg},
		{[]api.Atom{{Col: 3, Op: api.OpEq}}, api.ErrArg},
		{[]api.Atom{{Col: 4, Op: api.OpEq, Val: api.Val{Kind: 4}}}, api.ErrArg},
		{[]api.Atom{{Col: 0, Op: api.OpNull, Val: num(1)}}, api.ErrArg},
		{[]api.Atom{{Col: 9, Op: api.OpEq, Val: text("a")}}, api.ErrRange},
		{[]api.Atom{{Col: 5, Op: api.OpEq, Val: num(1)}}, api.ErrRange},
		{[]api.Atom{{Col: math.MaxInt, Op: api.OpNotNull}}, api.ErrRange},
		{[]api.Atom{{Col: 4, Op: api.OpEq, Val: num(1)}}, api.ErrKind},
		{[]api.Atom{{Col: 3, Op: api.OpEq, Val: num(1)}}, api.ErrKind},
		{[]api.Atom{{Col: 2, Op: api.OpEq, Val: num(1)}}, api.ErrKind},
		{[]api.Atom{{Col: 2, Op: api.OpGe, Val: float(1)}, {Col: 1, Op: api.OpLe, Val: text("")}}, api.OK},
	} {
		if e := pred.Check(c.l, kinds); e != c.e {
			t.Error(k, e)
		}
	}
	if pred.Check(nil, nil) != api.OK || pred.Check([]api.Atom{far}, nil) != api.ErrRange || pred.Check([]api.Atom{{Op: api.OpNull}}, []int{}) != api.ErrRange || pred.Check([]api.Atom{arg}, nil) != api.ErrArg {
		t.Error("no kinds")
	}
}

// P13.2: whether a value is nothing is asked of columns of any kind.
func TestCheckOfNull(t *testing.T) {
	kinds := []int{api.Null, api.Int, api.Float, api.Text, 4, -1, math.MaxInt, math.MinInt}
	for col := range kinds {
		for _, op := range []int{api.OpNull, api.OpNotNull} {
			if e := pred.Check([]api.Atom{{Col: col, Op: op}}, kinds); e != api.OK {
				t.Error(col, op, e)
			}
		}
	}
}

// P13.2: Check of one atom, whatever it is.
func TestCheckOfEach(t *testing.T) {
	kinds := []int{api.Text, api.Int, api.Null, api.Float, 4}
	for _, v := range values() {
		for _, op := range slices.Concat(ops(), noOps()) {
			for _, col := range []int{-1, 0, 1, 2, 3, 4, 5, 6, math.MaxInt, math.MinInt} {
				want := api.OK
				switch {
				case col < 0 || !mayBe(op, v):
					want = api.ErrArg
				case col >= len(kinds):
					want = api.ErrRange
				case op != api.OpNull && op != api.OpNotNull && kinds[col] != v.Kind:
					want = api.ErrKind
				}
				if e := pred.Check([]api.Atom{{Col: col, Op: op, Val: v}}, kinds); e != want {
					t.Error(col, op, v.Kind, e)
				}
			}
		}
	}
}

// ahead tells which of two atoms is ahead, as P13.2 has it of Neat.
func ahead(a, b api.Atom) int {
	for _, two := range [][2]int{{a.Col, b.Col}, {a.Op, b.Op}} {
		if two[0] < two[1] {
			return -1
		}
		if two[0] > two[1] {
			return 1
		}
	}
	return val.Compare(a.Val, b.Val)
}

// neat lays each atom in its place, but those that are there.
func neat(l []api.Atom) []api.Atom {
	var out []api.Atom
	for _, a := range l {
		at := 0
		for at < len(out) && ahead(out[at], a) < 0 {
			at++
		}
		if at == len(out) || ahead(out[at], a) != 0 {
			out = slices.Insert(out, at, a)
		}
	}
	return out
}

// P13.2: atoms that are there twice, out of order, and alike but not the same.
func TestNeatByHand(t *testing.T) {
	a, b, c := api.Atom{Col: 0, Op: 2, Val: num(9)}, api.Atom{Col: 0, Op: 3, Val: num(-1)}, api.Atom{Col: 0, Op: 3, Val: num(7)}
	d, e, f := api.Atom{Col: 0, Op: 3, Val: text("a")}, api.Atom{Col: 1, Op: 1, Val: num(0)}, api.Atom{Col: -1, Op: 1 << 40, Val: num(0)}
	if l := pred.Neat([]api.Atom{e, d, a, c, e, b, f, a, d, f}); !slices.Equal(l, []api.Atom{f, a, b, c, d, e}) {
		t.Error(l)
	}
	nan, clean := api.Atom{Op: 1, Val: someNan()}, api.Atom{Op: 1, Val: val.Clean(someNan())}
	if l := pred.Neat([]api.Atom{nan, clean, nan}); !slices.Equal(l, []api.Atom{nan}) {
		t.Error(l)
	}
	if l := pred.Neat([]api.Atom{e, clean, nan, nan, clean}); !slices.Equal(l, []api.Atom{clean, e}) {
		t.Error(l)
	}
	one, two := api.Atom{Op: 7, Val: api.Val{I: 1}}, api.Atom{Op: 7, Val: api.Val{S: "x"}}
	if l := pred.Neat([]api.Atom{two, one, {Op: 7}}); !slices.Equal(l, []api.Atom{two}) {
		t.Error(l)
	}
	minus, plus := api.Atom{Op: 1, Val: float(math.Copysign(0, -1))}, api.Atom{Op: 1, Val: float(0)}
	if l := pred.Neat([]api.Atom{plus, minus, plus}); !slices.Equal(l, []api.Atom{minus, plus}) {
		t.Error(l)
	}
	if pred.Neat([]api.Atom{a})[0] != a || len(pred.Neat(nil)) != 0 || len(pred.Neat([]api.Atom{})) != 0 {
		t.Error("one and none")
	}
}

// P13.2: Neat of atoms of all values; the first of those that are alike stays, however many there are.
func TestNeat(t *testing.T) {
	for seed := range uint64(400) {
		for _, from := range [][]api.Val{few(), values()} {
			l := someAtoms(seed, int(seed), from)
			if got := pred.Neat(l); !slices.Equal(got, neat(l)) {
				t.Fatal(seed, got)
			}
		}
	}
	var alike []api.Atom
	for i := range int64(5000) {
		alike = append(alike, api.Atom{Col: int(i % 2), Op: 7, Val: api.Val{I: i}})
	}
	if l := pred.Neat(alike); !slices.Equal(l, alike[:2]) {
		t.Error(len(l))
	}
}

// P13.2: columns and operations that are far from each other have their order, too.
func TestNeatOfFarNumbers(t *testing.T) {
	far := []int{math.MinInt, math.MinInt + 1, -1 << 33, -1, 0, 1, 1 << 33, math.MaxInt - 1, math.MaxInt}
	var want []api.Atom
	for _, col := range far {
		for _, op := range far {
			want = append(want, api.Atom{Col: col, Op: op, Val: num(1)})
		}
	}
	l := slices.Concat(want, want)
	slices.Reverse(l)
	if got := pred.Neat(l); !slices.Equal(got, want) {
		t.Error(got)
	}
}

// P13.3: just one of below, the same, above holds.
func TestJustOne(t *testing.T) {
	for _, l := range rising() {
		for i, own := range l {
			for j, v := range l {
				is := func(op int) bool { return pred.Holds(api.Atom{Op: op, Val: own}, v) }
				if is(api.OpLt) != (j < i) || is(api.OpEq) != (j == i) || is(api.OpGt) != (j > i) {
					t.Error(own.Kind, i, j)
				}
				if is(api.OpNe) == is(api.OpEq) || is(api.OpLe) == is(api.OpGt) || is(api.OpGe) == is(api.OpLt) {
					t.Error(own.Kind, i, j, "the other half")
				}
			}
		}
	}
	for _, own := range values() {
		for _, v := range values() {
			held := 0
			for _, op := range []int{api.OpLt, api.OpEq, api.OpGt} {
				if pred.Holds(api.Atom{Op: op, Val: own}, v) {
					held++
				}
			}
			if want := v.Kind != api.Null && v.Kind == own.Kind; held > 1 || (held == 1) != want {
				t.Error(own.Kind, own.I, v.Kind, v.I, held)
			}
		}
	}
}

// P13.3: Neat holds just where l does, and is itself made neat.
func TestNeatHoldsWhereAllDoes(t *testing.T) {
	both := 0
	for seed := range uint64(6000) {
		from := [][]api.Val{few(), values()}[seed%2]
		l := someAtoms(seed, int(seed/2%5), from)
		tidy := pred.Neat(append(l, l...))
		if !slices.Equal(pred.Neat(tidy), tidy) {
			t.Fatal(seed, tidy)
		}
		for i := range uint64(8) {
			row := someRow(seed+i, int(i%5), from)
			is := pred.All(l, row)
			if pred.All(tidy, row) != is {
				t.Fatal(seed, l, row)
			}
			if is && len(l) > 1 {
				both++
			}
		}
	}
	if both == 0 {
		t.Error("no list held")
	}
}

// R3: what is handed in stays, and what is told is the caller's own.
func TestOwn(t *testing.T) {
	for _, n := range []int{1, 2, 10, 100} {
		l := someAtoms(7, n, few())
		kept, row, kinds := slices.Clone(l), someRow(3, 4, few()), []int{1, 2, 3}
		rowKept, kindsKept := slices.Clone(row), slices.Clone(kinds)
		first := pred.Neat(l)
		want := slices.Clone(first)
		pred.All(l, row)
		pred.Check(l, kinds)
		if !slices.Equal(l, kept) || !slices.Equal(row, rowKept) || !slices.Equal(kinds, kindsKept) {
			t.Fatal("changed")
		}
		for i := range first {
			first[i] = api.Atom{Col: -9}
		}
		for range n {
			first = append(first, api.Atom{Col: -8})
		}
		if !slices.Equal(l, kept) {
			t.Fatal("shared")
		}
		if again := pred.Neat(l); !slices.Equal(again, want) {
			t.Fatal(again)
		}
		tidy := pred.Neat(want)
		l[0], want[0].Col = api.Atom{Col: 77}, 77
		if tidy[0].Col == 77 {
			t.Fatal("shared with a neat one")
		}
	}
	// Neither is what stands behind a slice that is handed in.
	whole := []api.Atom{{Col: 2, Op: 7}, {Col: 1, Op: 7}, {Col: 0, Op: 7}}
	pred.Neat(whole[:2])
	if whole[0].Col != 2 || whole[1].Col != 1 || whole[2].Col != 0 {
		t.Error(whole)
	}
}

// R4: nothing is kept from call to call.
func TestNothingKept(t *testing.T) {
	a, b := api.Atom{Op: api.OpLt, Val: num(5)}, api.Atom{Op: api.OpLt, Val: num(3)}
	for range 3 {
		if !pred.Holds(a, num(4)) || pred.Holds(b, num(4)) {
			t.Error("of another atom")
		}
	}
}

func FuzzPred(f *testing.F) {
	f.Add(0, 1, 1, int64(5), "", 1, int64(4), "")
	f.Add(1, 3, 3, int64(0), "a", 3, int64(0), "b")
	f.Add(-1, 7, 0, int64(0), "", 0, int64(0), "")
	f.Add(2, 5, 2, int64(0x7FF8000000000123), "", 2, int64(0x7FF8000000000001), "x")
	f.Fuzz(func(t *testing.T, col, op, kind int, n int64, s string, kind2 int, n2 int64, s2 string) {
		own, v := api.Val{Kind: kind, I: n, S: s}, api.Val{Kind: kind2, I: n2, S: s2}
		a, b := api.Atom{Col: col, Op: op, Val: own}, api.Atom{Col: col, Op: op, Val: v}
		if pred.May(a) != (col >= 0 && mayBe(op, own)) || pred.Holds(a, v) != held(op, own, v) {
			t.Fatal("May, Holds")
		}
		row := []api.Val{v, own}
		if want := col >= 0 && col < 2 && held(op, own, row[min(max(col, 0), 1)]); pred.All([]api.Atom{a}, row) != want {
			t.Fatal("All")
		}
		if !slices.Equal(pred.Neat([]api.Atom{b, a, b}), neat([]api.Atom{b, a, b})) {
			t.Fatal("Neat")
		}
		e, want := pred.Check([]api.Atom{a}, []int{kind2, kind}), api.OK
		switch {
		case !pred.May(a):
			want = api.ErrArg
		case col > 1:
			want = api.ErrRange
		case op < api.OpNull && col == 0 && kind != kind2:
			want = api.ErrKind
		}
		if e != want {
			t.Fatal("Check", e)
		}
	})
}
