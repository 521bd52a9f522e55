package leaf

import (
	"math"
	"slices"
	"testing"

	"osier/api"
)

// Kinds, by the document's order.
const (
	oPut   = 1
	oAdd   = 2
	oCut   = 3
	oGet   = 4
	oRange = 5
	oCount = 6
	oMin   = 7
	oMax   = 8
)

// The ends of int.
const (
	low  = math.MinInt
	high = math.MaxInt
)

// pairs is pairs by hand: key, value, key, value ..
func pairs(n ...int) []api.Pair {
	var l []api.Pair
	for i := 0; i < len(n); i += 2 {
		l = append(l, api.Pair{Key: n[i], Val: n[i+1]})
	}
	return l
}

// alike says whether two lists are, without the package.
func alike(a, b []api.Pair) bool {
	if len(a) != len(b) {
		return false
	}
	for i := range a {
		if a[i].Key != b[i].Key || a[i].Val != b[i].Val {
			return false
		}
	}
	return true
}

// alikeAns says whether two answers are, without the package.
func alikeAns(a, b api.Ans) bool {
	return a.Err == b.Err && a.Ok == b.Ok && a.Pair.Key == b.Pair.Key && a.Pair.Val == b.Pair.Val && a.N == b.N && alike(a.Pairs, b.Pairs)
}

// behind is what lies behind the lists that are handed in: pairs that would
// tell on who reads them, as they stand where no pair of a test does.
var behind = pairs(low, 666, 3, 666, 5, 666, high, 666)

// guarded is the list with more behind its length, and the whole of it.
func guarded(l []api.Pair) (list, whole []api.Pair) {
	whole = slices.Concat(l, behind)
	return whole[:len(l)], whole
}

// spoil writes over all of a list, and over what its capacity holds.
func spoil(l []api.Pair) {
	l = l[:cap(l)]
	for i := range l {
		l[i] = api.Pair{Key: 777, Val: 777}
	}
}

// checkDo does the operation twice, on a list with more behind it, and spoils
// what was told.
func checkDo(t *testing.T, l []api.Pair, op api.Op, want []api.Pair, ans api.Ans) {
	t.Helper()
	list, whole := guarded(l)
	for range 2 {
		got, a := Do(list, op)
		if !alike(got, want) {
			t.Errorf("Do(%v, %+v): pairs %v, not %v", l, op, got, want)
		}
		if !alikeAns(a, ans) {
			t.Errorf("Do(%v, %+v): %+v, not %+v", l, op, a, ans)
		}
		spoil(got)
		if !alikeAns(a, ans) {
			t.Errorf("Do(%v, %+v): the answer shares memory with the pairs: %+v", l, op, a)
		}
		again, a2 := Do(list, op)
		spoil(a.Pairs)
		if !alike(again, want) || !alikeAns(a2, ans) {
			t.Errorf("Do(%v, %+v): what was told shares memory: %v, %+v", l, op, again, a2)
		}
		spoil(a2.Pairs)
		if !alike(again, want) {
			t.Errorf("Do(%v, %+v): the pairs share memory with the answer: %v", l, op, again)
		}
		if !alike(whole, slices.Concat(l, behind)) {
			t.Fatalf("Do(%v, %+v): what was handed in is %v now", l, op, whole)
		}
	}
}

// Answers, by hand.
func was(key, val int) api.Ans { return api.Ans{Ok: true, Pair: api.Pair{Key: key, Val: val}} }
func many(n ...int) api.Ans    { return api.Ans{N: len(n) / 2, Pairs: pairs(n...)} }
func count(n int) api.Ans      { return api.Ans{N: n} }

var (
	none  = api.Ans{}
	wrong = api.Ans{Err: 1}
)

// P13.1: the numbers above are the document's.
func TestNumbers(t *testing.T) {
	for i, k := range []int{api.OPut, api.OAdd, api.OCut, api.OGet, api.ORange, api.OCount, api.OMin, api.OMax} {
		if k != i+1 {
			t.Errorf("kind %d is %d", i+1, k)
		}
	}
	if api.OK != 0 || api.ErrArg != 1 {
		t.Errorf("OK %d, ErrArg %d", api.OK, api.ErrArg)
	}
}

// mayNot is pairs that may not be.
var mayNot = [][]api.Pair{
	// One key twice: of two, at the front, in the middle, at the end, all.
	pairs(1, 5, 1, 5), pairs(1, 5, 1, 6), pairs(0, 0, 0, 0), pairs(-4, 0, -4, 1),
	pairs(1, 5, 1, 6, 2, 7, 3, 8), pairs(1, 5, 2, 6, 2, 7, 3, 8), pairs(1, 5, 2, 6, 3, 7, 3, 8),
	pairs(2, 5, 2, 6, 2, 7),
	// Two the wrong way round: of two, at the front, in the middle, at the end, all.
	pairs(2, 5, 1, 6), pairs(1, 5, 0, 6), pairs(0, 5, -1, 6), pairs(-1, 5, -2, 6),
	pairs(2, 5, 1, 6, 3, 7, 4, 8), pairs(1, 5, 3, 6, 2, 7, 4, 8), pairs(1, 5, 2, 6, 4, 7, 3, 8),
	pairs(4, 5, 3, 6, 2, 7, 1, 8), pairs(1, 5, 2, 6, 1, 7), pairs(3, 5, 1, 6, 2, 7), pairs(2, 5, 3, 6, 1, 7),
	// At the ends of int, where what lies between two keys goes round.
	pairs(high, 5, low, 6), pairs(low, 5, low, 6), pairs(high, 5, high, 6), pairs(high, 5, high-1, 6),
	pairs(low+1, 5, low, 6), pairs(high, 5, 0, 6), pairs(0, 5, low, 6), pairs(high, 5, -1, 6), pairs(low, 1, high, 2, low, 3),
	pairs(low, 1, 0, 2, high, 3, high, 4), pairs(low, 0, low, 0, high, 0),
	// Keys whose lower 32 bits alone rise.
	pairs(1<<32, 5, 1, 6), pairs(1<<32+1, 5, 2, 6), pairs(1, 5, -1<<32+2, 6),
	// Values that rise don't help.
	pairs(9, 1, 8, 2, 7, 3),
}

// mayBe is pairs that may be.
var mayBe = [][]api.Pair{
	nil, {},
	pairs(0, 0), pairs(1, 5), pairs(-1, 5), pairs(low, 5), pairs(high, 5),
	pairs(1, 5, 2, 5), pairs(1, 9, 2, 8), pairs(-2, 0, -1, 0), pairs(-1, 0, 0, 0), pairs(0, 0, 1, 0),
	pairs(1, 5, 4, 6, 7, 8), pairs(1, 9, 2, 8, 3, 7, 4, 6), pairs(-7, 1, 0, 1, 7, 1),
	pairs(low, 5, high, 6), pairs(low, 5, low+1, 6, 0, 7, high-1, 8, high, 9), pairs(low, high, -1, low, 0, 0, 1, high, high, low),
	pairs(low, 1, 1, 2), pairs(-1, 1, high, 2), pairs(low, 1, low+1, 2), pairs(high-1, 1, high, 2),
	pairs(1, 5, 1<<32, 6), pairs(2, 5, 1<<32+1, 6), pairs(-1<<32+2, 5, 1, 6),
}

// P13.1: May of pairs that may be, and that may not.
func TestMay(t *testing.T) {
	for _, l := range mayBe {
		checkMay(t, l, true)
	}
	for _, l := range mayNot {
		checkMay(t, l, false)
	}
}

// checkMay asks May twice, of a list with more behind it.
func checkMay(t *testing.T, l []api.Pair, want bool) {
	t.Helper()
	list, whole := guarded(l)
	for range 2 {
		if May(list) != want {
			t.Errorf("May(%v) is not %v", l, want)
		}
	}
	if !alike(whole, slices.Concat(l, behind)) {
		t.Errorf("May(%v): what was handed in is %v now", l, whole)
	}
}

// P13.1: a long list may be, but not with two of its keys the other way round, or
// one twice, wherever these stand.
func TestMayLong(t *testing.T) {
	var l []api.Pair
	for k := range 300 {
		l = append(l, api.Pair{Key: 3*k - 450, Val: -k})
	}
	checkMay(t, l, true)
	for i := range len(l) - 1 {
		turned := slices.Clone(l)
		turned[i], turned[i+1] = turned[i+1], turned[i]
		checkMay(t, turned, false)
		twice := slices.Clone(l)
		twice[i+1].Key = twice[i].Key
		checkMay(t, twice, false)
		checkMay(t, l[:i], true)
		checkMay(t, l[i:], true)
	}
}

// P13.1: MayOp and Updates hang on Kind alone.
func TestMayOp(t *testing.T) {
	rows := []struct {
		kind         int
		may, updates bool
	}{
		{oPut, true, true}, {oAdd, true, true}, {oCut, true, true}, {oGet, true, false},
		{oRange, true, false}, {oCount, true, false}, {oMin, true, false}, {oMax, true, false},
	}
	for _, kind := range noKinds {
		rows = append(rows, struct {
			kind         int
			may, updates bool
		}{kind, false, false})
	}
	for _, r := range rows {
		for _, op := range []api.Op{
			{Kind: r.kind}, {Kind: r.kind, Key: 1, Hi: 2, Val: 3}, {Kind: r.kind, Key: 2, Hi: 1}, {Kind: r.kind, Key: -1, Hi: -2, Val: -3},
			{Kind: r.kind, Key: low, Hi: high, Val: low}, {Kind: r.kind, Key: high, Hi: low, Val: high},
		} {
			for range 2 {
				if MayOp(op) != r.may {
					t.Errorf("MayOp(%+v) is not %v", op, r.may)
				}
				if Updates(op) != r.updates {
					t.Errorf("Updates(%+v) is not %v", op, r.updates)
				}
			}
		}
	}
}

// noKinds is numbers of no operation: one below, one above, the ends of int, and
// numbers whose lower 8, 16, 32 bits alone are one's.
var noKinds = []int{
	0, -1, -2, -3, -8, 9, 10, 100,
	1<<8 + 1, 1<<8 + 4, 1<<16 + 2, 1<<32 + 1, 1<<32 + 3, 1<<32 + 5, -1<<32 + 1, -1<<32 + 8, -1<<8 + 2,
	low, low + 1, low + 2, low + 3, low + 8, high - 8, high - 1, high,
}

// P13.1: Find of each key, and of keys that are not there.
func TestFind(t *testing.T) {
	for _, r := range []struct {
		l         []api.Pair
		key, want int
	}{
		{nil, 0, -1}, {[]api.Pair{}, 0, -1}, {nil, 5, -1}, {nil, low, -1}, {nil, high, -1}, {nil, 666, -1},
		{pairs(5, 1), 5, 0}, {pairs(5, 1), 4, -1}, {pairs(5, 1), 6, -1}, {pairs(5, 1), 1, -1}, {pairs(5, 1), 0, -1}, {pairs(0, 1), 0, 0},
		{pairs(2, 7, 4, 8, 6, 9), 2, 0}, {pairs(2, 7, 4, 8, 6, 9), 4, 1}, {pairs(2, 7, 4, 8, 6, 9), 6, 2},
		{pairs(2, 7, 4, 8, 6, 9), 1, -1}, {pairs(2, 7, 4, 8, 6, 9), 3, -1}, {pairs(2, 7, 4, 8, 6, 9), 5, -1}, {pairs(2, 7, 4, 8, 6, 9), 7, -1},
		{pairs(2, 7, 4, 8, 6, 9), 8, -1}, {pairs(2, 7, 4, 8, 6, 9), 9, -1}, {pairs(2, 7, 4, 8, 6, 9), low, -1}, {pairs(2, 7, 4, 8, 6, 9), high, -1},
		{pairs(low, 1, 0, 2, high, 3), low, 0}, {pairs(low, 1, 0, 2, high, 3), 0, 1}, {pairs(low, 1, 0, 2, high, 3), high, 2},
		{pairs(low, 1, 0, 2, high, 3), low + 1, -1}, {pairs(low, 1, 0, 2, high, 3), high - 1, -1}, {pairs(low, 1, 0, 2, high, 3), -1, -1},
		{pairs(5, 1), 1<<32 + 5, -1}, {pairs(1<<32+5, 1), 5, -1}, {pairs(1<<32+5, 1), 1<<32 + 5, 0},
		// The first of several, and pairs that may not be.
		{pairs(5, 1, 5, 2), 5, 0}, {pairs(1, 1, 5, 2, 5, 3, 7, 4), 5, 1}, {pairs(1, 1, 2, 2, 5, 3, 5, 4, 5, 5), 5, 2},
		{pairs(5, 1, 3, 2, 5, 3), 5, 0}, {pairs(5, 1, 3, 2, 5, 3), 3, 1}, {pairs(9, 1, 7, 2, 5, 3, 3, 4, 1, 5), 9, 0},
		{pairs(9, 1, 7, 2, 5, 3, 3, 4, 1, 5), 7, 1}, {pairs(9, 1, 7, 2, 5, 3, 3, 4, 1, 5), 5, 2}, {pairs(9, 1, 7, 2, 5, 3, 3, 4, 1, 5), 3, 3},
		{pairs(9, 1, 7, 2, 5, 3, 3, 4, 1, 5), 1, 4}, {pairs(9, 1, 7, 2, 5, 3, 3, 4, 1, 5), 6, -1}, {pairs(8, 1, 1, 2, 9, 3, 2, 4, 1, 5), 1, 1},
	} {
		list, whole := guarded(r.l)
		for range 2 {
			if got := Find(list, r.key); got != r.want {
				t.Errorf("Find(%v, %d): %d, not %d", r.l, r.key, got, r.want)
			}
		}
		if !alike(whole, slices.Concat(r.l, behind)) {
			t.Errorf("Find(%v, %d): what was handed in is %v now", r.l, r.key, whole)
		}
	}
}

// P13.1: Same of lists that are alike, and of others in one part.
func TestSame(t *testing.T) {
	l := pairs(1, 5, 4, 6, 7, 8)
	others := [][]api.Pair{
		nil, {}, pairs(1, 5), pairs(1, 5, 4, 6), pairs(4, 6, 7, 8), pairs(1, 5, 7, 8), pairs(1, 5, 4, 6, 7, 8, 9, 9), pairs(0, 0, 1, 5, 4, 6, 7, 8),
		pairs(2, 5, 4, 6, 7, 8), pairs(1, 5, 5, 6, 7, 8), pairs(1, 5, 4, 6, 8, 8), // a key
		pairs(1, 6, 4, 6, 7, 8), pairs(1, 5, 4, 7, 7, 8), pairs(1, 5, 4, 6, 7, 9), // a value
		pairs(4, 6, 1, 5, 7, 8), pairs(1, 5, 7, 8, 4, 6), pairs(7, 8, 4, 6, 1, 5), // their order
		pairs(5, 1, 6, 4, 8, 7), pairs(4, 5, 1, 6, 7, 8), pairs(1, 6, 4, 5, 7, 8), pairs(-1, 5, 4, 6, 7, 8),
		pairs(1<<32+1, 5, 4, 6, 7, 8), pairs(1, 5, 4, 6, 7, 1<<32+8),
	}
	for _, m := range others {
		checkSame(t, l, m, false)
	}
	for _, m := range append(others, l, pairs(low, high), pairs(high, low), pairs(2, 2, 2, 2), pairs(3, 1, 2, 1)) {
		checkSame(t, m, slices.Clone(m), true)
		checkSame(t, m, m, true)
	}
	checkSame(t, nil, []api.Pair{}, true)
	checkSame(t, nil, nil, true)
	checkSame(t, []api.Pair{}, []api.Pair{}, true)
	checkSame(t, nil, pairs(0, 0), false)
	checkSame(t, []api.Pair{}, pairs(0, 0), false)
	checkSame(t, pairs(0, 0), pairs(0, 0, 0, 0), false)
	checkSame(t, pairs(high, 0), pairs(low, 0), false)
	checkSame(t, pairs(0, high), pairs(0, low), false)
}

// checkSame asks Same, both ways round, of lists with more behind them; and
// SameAns of answers that have these.
func checkSame(t *testing.T, a, b []api.Pair, want bool) {
	t.Helper()
	la, wholeA := guarded(a)
	lb, wholeB := guarded(b)
	for range 2 {
		if Same(la, lb) != want || Same(lb, la) != want || Same(a, lb) != want || Same(la, b) != want {
			t.Errorf("Same(%v, %v) is not %v", a, b, want)
		}
		x, y := api.Ans{N: 3, Pairs: la}, api.Ans{N: 3, Pairs: lb}
		if SameAns(x, y) != want || SameAns(y, x) != want {
			t.Errorf("SameAns(%+v, %+v) is not %v", x, y, want)
		}
	}
	if !alike(wholeA, slices.Concat(a, behind)) || !alike(wholeB, slices.Concat(b, behind)) {
		t.Errorf("Same(%v, %v): what was handed in is %v, %v now", a, b, wholeA, wholeB)
	}
}

// P13.1: SameAns of answers that are alike, and of others in one part.
func TestSameAns(t *testing.T) {
	full := func() api.Ans {
		return api.Ans{Err: 2, Ok: true, Pair: api.Pair{Key: 1, Val: 2}, N: 3, Pairs: pairs(1, 2, 3, 4)}
	}
	empty := func() api.Ans { return api.Ans{} }
	changes := []func(a *api.Ans){
		func(a *api.Ans) { a.Err++ },
		func(a *api.Ans) { a.Err-- },
		func(a *api.Ans) { a.Err += 1 << 32 },
		func(a *api.Ans) { a.Ok = !a.Ok },
		func(a *api.Ans) { a.Pair.Key++ },
		func(a *api.Ans) { a.Pair.Val-- },
		func(a *api.Ans) { a.Pair.Key, a.Pair.Val = a.Pair.Val+9, a.Pair.Key+9 },
		func(a *api.Ans) { a.Pair.Key += 1 << 32 },
		func(a *api.Ans) { a.N++ },
		func(a *api.Ans) { a.N = -a.N - 1 },
		func(a *api.Ans) { a.N += 1 << 32 },
		func(a *api.Ans) { a.Pairs = append(a.Pairs, api.Pair{}) },
		func(a *api.Ans) { a.Pairs = pairs(1, 2, 3, 5) },
		func(a *api.Ans) { a.Pairs = pairs(3, 4, 1, 2) },
		func(a *api.Ans) { a.Pairs = pairs(1, 2) },
		func(a *api.Ans) { a.Pairs = pairs(0, 2, 3, 4) },
	}
	for _, make := range []func() api.Ans{full, empty} {
		if !SameAns(make(), make()) {
			t.Errorf("SameAns(%+v, itself) is not true", make())
		}
		for i, change := range changes {
			a, b := make(), make()
			change(&b)
			if SameAns(a, b) || SameAns(b, a) {
				t.Errorf("change %d: SameAns(%+v, %+v) is true", i, a, b)
			}
			change(&a)
			if !SameAns(a, b) || !SameAns(b, a) {
				t.Errorf("change %d: SameAns(%+v, %+v) is not true", i, a, b)
			}
		}
	}
	if SameAns(full(), api.Ans{}) || SameAns(api.Ans{}, full()) {
		t.Error("a full answer is an empty one")
	}
	if !SameAns(api.Ans{}, api.Ans{Pairs: []api.Pair{}}) || !SameAns(api.Ans{Pairs: []api.Pair{}}, api.Ans{}) {
		t.Error("nil and empty lists are not one")
	}
}

// P13.2: OPut: the first, one in the middle, the last; below all, between two,
// above all; on no pairs, on one, on many.
func TestPut(t *testing.T) {
	l := pairs(2, 20, 4, 40, 6, 60)
	for _, r := range []struct {
		l, want  []api.Pair
		key, val int
		ans      api.Ans
	}{
		{nil, pairs(3, 9), 3, 9, none}, {nil, pairs(0, 0), 0, 0, none}, {nil, pairs(low, high), low, high, none}, {nil, pairs(high, low), high, low, none},
		{[]api.Pair{}, pairs(-3, -9), -3, -9, none},
		{pairs(1, 5), pairs(1, 9), 1, 9, was(1, 5)}, {pairs(1, 5), pairs(0, 9, 1, 5), 0, 9, none}, {pairs(1, 5), pairs(1, 5, 2, 9), 2, 9, none},
		{pairs(1, 5), pairs(1, 5), 1, 5, was(1, 5)}, {pairs(0, 0), pairs(0, 0), 0, 0, was(0, 0)}, {pairs(0, 0), pairs(0, 7), 0, 7, was(0, 0)},
		{pairs(1, 5), pairs(1, 0), 1, 0, was(1, 5)},
		{l, pairs(2, 9, 4, 40, 6, 60), 2, 9, was(2, 20)}, {l, pairs(2, 20, 4, 9, 6, 60), 4, 9, was(4, 40)}, {l, pairs(2, 20, 4, 40, 6, 9), 6, 9, was(6, 60)},
		{l, pairs(1, 9, 2, 20, 4, 40, 6, 60), 1, 9, none}, {l, pairs(2, 20, 3, 9, 4, 40, 6, 60), 3, 9, none},
		{l, pairs(2, 20, 4, 40, 5, 9, 6, 60), 5, 9, none}, {l, pairs(2, 20, 4, 40, 6, 60, 7, 9), 7, 9, none},
		{l, pairs(low, 9, 2, 20, 4, 40, 6, 60), low, 9, none}, {l, pairs(2, 20, 4, 40, 6, 60, high, 9), high, 9, none},
		{pairs(low, 1, high, 2), pairs(low, 9, high, 2), low, 9, was(low, 1)}, {pairs(low, 1, high, 2), pairs(low, 1, high, 9), high, 9, was(high, 2)},
		{pairs(low, 1, high, 2), pairs(low, 1, 0, 9, high, 2), 0, 9, none}, {pairs(low, 1, high, 2), pairs(low, 1, low+1, 9, high, 2), low + 1, 9, none},
		{pairs(low, 1, high, 2), pairs(low, 1, high-1, 9, high, 2), high - 1, 9, none},
		{pairs(5, 1), pairs(5, 1, 1<<32+5, 9), 1<<32 + 5, 9, none}, {pairs(5, 1), pairs(-1<<32+5, 9, 5, 1), -1<<32 + 5, 9, none},
	} {
		for _, hi := range []int{0, r.key, low, high} {
			checkDo(t, r.l, api.Op{Kind: oPut, Key: r.key, Val: r.val, Hi: hi}, r.want, r.ans)
		}
	}
}

// P13.2: OAdd: the same answer as OPut; what is there stays.
func TestAdd(t *testing.T) {
	l := pairs(2, 20, 4, 40, 6, 60)
	for _, r := range []struct {
		l, want  []api.Pair
		key, val int
		ans      api.Ans
	}{
		{nil, pairs(3, 9), 3, 9, none}, {nil, pairs(0, 0), 0, 0, none}, {nil, pairs(low, high), low, high, none}, {nil, pairs(high, low), high, low, none},
		{[]api.Pair{}, pairs(-3, -9), -3, -9, none},
		{pairs(1, 5), pairs(1, 5), 1, 9, was(1, 5)}, {pairs(1, 5), pairs(0, 9, 1, 5), 0, 9, none}, {pairs(1, 5), pairs(1, 5, 2, 9), 2, 9, none},
		{pairs(0, 0), pairs(0, 0), 0, 9, was(0, 0)}, {pairs(1, 5), pairs(1, 5), 1, 5, was(1, 5)},
		{l, l, 2, 9, was(2, 20)}, {l, l, 4, 9, was(4, 40)}, {l, l, 6, 9, was(6, 60)},
		{l, pairs(1, 9, 2, 20, 4, 40, 6, 60), 1, 9, none}, {l, pairs(2, 20, 3, 9, 4, 40, 6, 60), 3, 9, none},
		{l, pairs(2, 20, 4, 40, 5, 9, 6, 60), 5, 9, none}, {l, pairs(2, 20, 4, 40, 6, 60, 7, 9), 7, 9, none},
		{l, pairs(low, 9, 2, 20, 4, 40, 6, 60), low, 9, none}, {l, pairs(2, 20, 4, 40, 6, 60, high, 9), high, 9, none},
		{pairs(low, 1, high, 2), pairs(low, 1, high, 2), low, 9, was(low, 1)}, {pairs(low, 1, high, 2), pairs(low, 1, high, 2), high, 9, was(high, 2)},
		{pairs(low, 1, high, 2), pairs(low, 1, -1, 9, high, 2), -1, 9, none},
		{pairs(5, 1), pairs(5, 1, 1<<32+5, 9), 1<<32 + 5, 9, none},
	} {
		for _, hi := range []int{0, r.key, low, high} {
			checkDo(t, r.l, api.Op{Kind: oAdd, Key: r.key, Val: r.val, Hi: hi}, r.want, r.ans)
		}
	}
}

// P13.2: OCut and OGet: one answer; what OCut tells of is gone, OGet changes
// nothing.
func TestCutAndGet(t *testing.T) {
	l := pairs(2, 20, 4, 40, 6, 60)
	for _, r := range []struct {
		l, want []api.Pair
		key     int
		ans     api.Ans
	}{
		{nil, nil, 3, none}, {nil, nil, 0, none}, {nil, nil, low, none}, {nil, nil, high, none}, {[]api.Pair{}, nil, 3, none},
		{pairs(1, 5), nil, 1, was(1, 5)}, {pairs(1, 5), pairs(1, 5), 0, none}, {pairs(1, 5), pairs(1, 5), 2, none}, {pairs(1, 5), pairs(1, 5), 5, none},
		{pairs(0, 0), nil, 0, was(0, 0)}, {pairs(low, 5), nil, low, was(low, 5)}, {pairs(high, 5), nil, high, was(high, 5)},
		{l, pairs(4, 40, 6, 60), 2, was(2, 20)}, {l, pairs(2, 20, 6, 60), 4, was(4, 40)}, {l, pairs(2, 20, 4, 40), 6, was(6, 60)},
		{l, l, 1, none}, {l, l, 3, none}, {l, l, 5, none}, {l, l, 7, none}, {l, l, low, none}, {l, l, high, none}, {l, l, 20, none}, {l, l, 40, none},
		{pairs(low, 1, high, 2), pairs(high, 2), low, was(low, 1)}, {pairs(low, 1, high, 2), pairs(low, 1), high, was(high, 2)},
		{pairs(low, 1, high, 2), pairs(low, 1, high, 2), low + 1, none}, {pairs(low, 1, high, 2), pairs(low, 1, high, 2), high - 1, none},
		{pairs(low, 1, high, 2), pairs(low, 1, high, 2), 0, none},
		{pairs(5, 1), pairs(5, 1), 1<<32 + 5, none}, {pairs(1<<32+5, 1), pairs(1<<32+5, 1), 5, none},
	} {
		for _, val := range []int{0, 1, 20, low, high} {
			for _, hi := range []int{0, r.key, low, high} {
				checkDo(t, r.l, api.Op{Kind: oCut, Key: r.key, Val: val, Hi: hi}, r.want, r.ans)
				checkDo(t, r.l, api.Op{Kind: oGet, Key: r.key, Val: val, Hi: hi}, r.l, r.ans)
			}
		}
	}
}

// P13.2: ORange tells Pairs and how many, OCount how many alone.
func TestRangeAndCount(t *testing.T) {
	l := pairs(2, 20, 4, 40, 6, 60)
	e := pairs(low, 1, -1, 2, 0, 3, high, 4)
	for _, r := range []struct {
		l      []api.Pair
		lo, hi int
		ans    api.Ans
	}{
		{nil, 0, 0, many()}, {nil, 1, 9, many()}, {nil, low, high, many()}, {nil, high, low, many()}, {[]api.Pair{}, low, high, many()},
		{pairs(1, 5), 1, 1, many(1, 5)}, {pairs(1, 5), 0, 2, many(1, 5)}, {pairs(1, 5), 0, 1, many(1, 5)}, {pairs(1, 5), 1, 2, many(1, 5)},
		{pairs(1, 5), 0, 0, many()}, {pairs(1, 5), 2, 2, many()}, {pairs(1, 5), 2, 0, many()}, {pairs(1, 5), 1, 0, many()}, {pairs(1, 5), 2, 1, many()},
		{pairs(0, 0), 0, 0, many(0, 0)}, {pairs(1, 5), low, high, many(1, 5)}, {pairs(1, 5), high, low, many()},
		// From key to key.
		{l, 2, 6, many(2, 20, 4, 40, 6, 60)}, {l, 2, 4, many(2, 20, 4, 40)}, {l, 4, 6, many(4, 40, 6, 60)},
		// Of one key.
		{l, 2, 2, many(2, 20)}, {l, 4, 4, many(4, 40)}, {l, 6, 6, many(6, 60)}, {l, 1, 1, many()}, {l, 3, 3, many()}, {l, 5, 5, many()}, {l, 7, 7, many()},
		// Between keys.
		{l, 1, 7, many(2, 20, 4, 40, 6, 60)}, {l, 1, 6, many(2, 20, 4, 40, 6, 60)}, {l, 2, 7, many(2, 20, 4, 40, 6, 60)}, {l, 1, 5, many(2, 20, 4, 40)},
		{l, 1, 3, many(2, 20)}, {l, 3, 5, many(4, 40)}, {l, 5, 7, many(6, 60)}, {l, 3, 7, many(4, 40, 6, 60)}, {l, 3, 4, many(4, 40)}, {l, 4, 5, many(4, 40)},
		{l, 0, 1, many()}, {l, 7, 9, many()}, {l, -9, -1, many()}, {l, 5, 6, many(6, 60)}, {l, 3, 6, many(4, 40, 6, 60)}, {l, 2, 3, many(2, 20)},
		// The wrong way round.
		{l, 6, 2, many()}, {l, 4, 2, many()}, {l, 6, 4, many()}, {l, 7, 1, many()}, {l, 5, 3, many()}, {l, 4, 3, many()}, {l, 5, 4, many()}, {l, 3, 2, many()},
		{l, 3, 1, many()}, {l, 7, 6, many()}, {l, 7, 5, many()}, {l, 2, 1, many()}, {l, high, low, many()}, {l, high, 2, many()}, {l, 6, low, many()},
		// Over all, and at the ends of int.
		{l, low, high, many(2, 20, 4, 40, 6, 60)}, {l, low, 4, many(2, 20, 4, 40)}, {l, 4, high, many(4, 40, 6, 60)}, {l, low, low, many()}, {l, high, high, many()},
		{l, low, 1, many()}, {l, 7, high, many()}, {l, high - 1, high, many()},
		{e, low, high, many(low, 1, -1, 2, 0, 3, high, 4)}, {e, low, low, many(low, 1)}, {e, high, high, many(high, 4)}, {e, low + 1, high - 1, many(-1, 2, 0, 3)},
		{e, low, high - 1, many(low, 1, -1, 2, 0, 3)}, {e, low + 1, high, many(-1, 2, 0, 3, high, 4)}, {e, low, -1, many(low, 1, -1, 2)}, {e, 0, high, many(0, 3, high, 4)},
		{e, low, low + 1, many(low, 1)}, {e, high - 1, high, many(high, 4)}, {e, -1, 0, many(-1, 2, 0, 3)}, {e, 0, -1, many()}, {e, high, low, many()},
		{e, high, high - 1, many()}, {e, low + 1, low, many()}, {e, low + 1, low + 1, many()}, {e, high - 1, high - 1, many()},
		{pairs(5, 1, 1<<32+5, 2), 0, 1<<32 + 4, many(5, 1)}, {pairs(5, 1, 1<<32+5, 2), 6, 1<<32 + 5, many(1<<32+5, 2)}, {pairs(5, 1), 1<<32 + 5, 1<<32 + 5, many()},
	} {
		for _, val := range []int{0, 1, 20, low, high} {
			checkDo(t, r.l, api.Op{Kind: oRange, Key: r.lo, Hi: r.hi, Val: val}, r.l, r.ans)
			checkDo(t, r.l, api.Op{Kind: oCount, Key: r.lo, Hi: r.hi, Val: val}, r.l, count(len(r.ans.Pairs)))
		}
	}
}

// P13.2: OMin and OMax tell the first and the last pair, whatever Key, Hi and
// Val say.
func TestMinAndMax(t *testing.T) {
	for _, r := range []struct {
		l        []api.Pair
		min, max api.Ans
	}{
		{nil, none, none}, {[]api.Pair{}, none, none},
		{pairs(1, 5), was(1, 5), was(1, 5)}, {pairs(0, 0), was(0, 0), was(0, 0)}, {pairs(low, 5), was(low, 5), was(low, 5)}, {pairs(high, 5), was(high, 5), was(high, 5)},
		{pairs(1, 5, 4, 3), was(1, 5), was(4, 3)}, {pairs(2, 20, 4, 40, 6, 60), was(2, 20), was(6, 60)}, {pairs(2, 60, 4, 40, 6, 20), was(2, 60), was(6, 20)},
		{pairs(low, high, 0, 0, high, low), was(low, high), was(high, low)}, {pairs(-3, 0, -2, 0, -1, 0), was(-3, 0), was(-1, 0)},
	} {
		for _, n := range []int{0, 1, 3, 4, -5, low, high} {
			for _, hi := range []int{0, 2, low, high} {
				checkDo(t, r.l, api.Op{Kind: oMin, Key: n, Hi: hi, Val: n}, r.l, r.min)
				checkDo(t, r.l, api.Op{Kind: oMax, Key: n, Hi: hi, Val: n}, r.l, r.max)
			}
		}
	}
}

// P13.2, R4: pairs that may not be, operations that may not, both: ErrArg, all
// else in the answer zero, and the pairs as they were.
func TestErrArg(t *testing.T) {
	for _, l := range mayNot {
		for kind := oPut; kind <= oMax; kind++ {
			for _, key := range []int{0, 1, 2, 3, 9, low, high} {
				checkDo(t, l, api.Op{Kind: kind, Key: key, Hi: 9, Val: 7}, l, wrong)
			}
		}
		for _, kind := range noKinds {
			checkDo(t, l, api.Op{Kind: kind, Key: 1, Hi: 9, Val: 7}, l, wrong)
		}
	}
	for _, l := range mayBe {
		for _, kind := range noKinds {
			for _, key := range []int{0, 1, 2, 3, 9, low, high} {
				checkDo(t, l, api.Op{Kind: kind, Key: key, Hi: 9, Val: 7}, l, wrong)
			}
		}
	}
}

// byHand is what an operation makes of pairs that may be, key by key, without
// the package.
func byHand(l []api.Pair, op api.Op) ([]api.Pair, api.Ans) {
	var left, in []api.Pair
	var ans api.Ans
	for _, p := range l {
		if p.Key == op.Key {
			ans = api.Ans{Ok: true, Pair: p}
		}
		if op.Key <= p.Key && p.Key <= op.Hi {
			in = append(in, p)
		}
		if p.Key != op.Key || op.Kind > oCut || op.Kind == oAdd {
			left = append(left, p)
		}
	}
	switch op.Kind {
	case oPut, oAdd:
		if op.Kind == oPut || !ans.Ok {
			left = append(left, api.Pair{Key: op.Key, Val: op.Val})
			slices.SortFunc(left, func(p, q api.Pair) int { return p.Key - q.Key })
		}
	case oRange:
		ans = api.Ans{N: len(in), Pairs: in}
	case oCount:
		ans = api.Ans{N: len(in)}
	case oMin, oMax:
		ans = api.Ans{}
		for _, p := range l {
			if !ans.Ok || op.Kind == oMax {
				ans = api.Ans{Ok: true, Pair: p}
			}
		}
	}
	return left, ans
}

// P13.2: every operation on every set of keys 0 to 4, with keys -1 to 5.
func TestEvery(t *testing.T) {
	for set := range 1 << 5 {
		var l []api.Pair
		for k := range 5 {
			if set>>k&1 == 1 {
				l = append(l, api.Pair{Key: k, Val: 10*k + 3})
			}
		}
		for kind := oPut; kind <= oMax; kind++ {
			for key := -1; key <= 5; key++ {
				for hi := -1; hi <= 5; hi++ {
					op := api.Op{Kind: kind, Key: key, Hi: hi, Val: 77}
					want, ans := byHand(l, op)
					checkDo(t, l, op, want, ans)
				}
			}
		}
	}
}

// P13.2: each place of a long list.
func TestLong(t *testing.T) {
	for _, n := range []int{1, 2, 3, 7, 8, 9, 63, 64, 65, 200} {
		var l []api.Pair
		for k := range n {
			l = append(l, api.Pair{Key: 3*k - n, Val: -k})
		}
		for kind := oPut; kind <= oMax; kind++ {
			for key := -n - 2; key <= 2*n+2; key++ {
				op := api.Op{Kind: kind, Key: key, Hi: 2*key + n, Val: 5}
				want, ans := byHand(l, op)
				if got, a := Do(l, op); !alike(got, want) || !alikeAns(a, ans) {
					t.Fatalf("%d pairs: Do(.., %+v): %v, %+v, not %v, %+v", n, op, got, a, want, ans)
				}
			}
		}
	}
}

// P13.3: what was put is got, till it is put anew or cut.
func TestPutIsGot(t *testing.T) {
	for _, key := range []int{low, low + 1, -1, 0, 1, 4, 5, 1 << 32, high - 1, high} {
		for _, l := range mayBe {
			get, cut := api.Op{Kind: oGet, Key: key}, api.Op{Kind: oCut, Key: key}
			l, _ := Do(l, api.Op{Kind: oPut, Key: key, Val: 41})
			checkDo(t, l, get, l, was(key, 41))
			for _, other := range []api.Op{
				{Kind: oPut, Key: key ^ 1, Val: 7}, {Kind: oAdd, Key: key ^ 1, Val: 8}, {Kind: oAdd, Key: key, Val: 9}, {Kind: oGet, Key: key}, {Kind: oCut, Key: key ^ 1},
				{Kind: oRange, Key: low, Hi: high}, {Kind: oCount, Key: low, Hi: high}, {Kind: oMin}, {Kind: oMax}, {Kind: 9, Key: key}, {Key: key},
			} {
				l, _ = Do(l, other)
				checkDo(t, l, get, l, was(key, 41))
			}
			l, _ = Do(l, api.Op{Kind: oPut, Key: key, Val: 42})
			checkDo(t, l, get, l, was(key, 42))
			l, _ = Do(l, cut)
			checkDo(t, l, get, l, none)
			l, _ = Do(l, api.Op{Kind: oAdd, Key: key, Val: 43})
			checkDo(t, l, get, l, was(key, 43))
		}
	}
}

// P13.3: many operations, one after the other, against what each key's last
// update made of it.
func TestManyInARow(t *testing.T) {
	keys := []int{low, low + 1, -1 << 32, -7, -1, 0, 1, 2, 3, 5, 8, 1 << 32, 1<<32 + 1, high - 1, high}
	var l []api.Pair
	vals, there := map[int]int{}, map[int]bool{}
	turn := uint64(12345)
	next := func(n int) int {
		turn = turn*6364136223846793005 + 1442695040888963407
		return int(turn >> 33 % uint64(n))
	}
	for i := range 20000 {
		op := api.Op{Kind: 1 + next(8), Key: keys[next(len(keys))], Hi: keys[next(len(keys))], Val: i}
		before := slices.Clone(l)
		was, ok := vals[op.Key], there[op.Key]
		now, ans := Do(l, op)
		if !alike(l, before) {
			t.Fatalf("%+v changed what was handed in: %v, %v", op, l, before)
		}
		l = now
		if op.Kind == oPut || op.Kind == oAdd && !ok {
			vals[op.Key], there[op.Key] = i, true
		}
		if op.Kind == oCut {
			delete(vals, op.Key)
			delete(there, op.Key)
		}
		var want, in []api.Pair
		for _, k := range keys {
			if there[k] {
				want = append(want, api.Pair{Key: k, Val: vals[k]})
			}
			if there[k] && op.Key <= k && k <= op.Hi {
				in = append(in, api.Pair{Key: k, Val: vals[k]})
			}
		}
		told := api.Ans{Ok: ok, Pair: api.Pair{Key: op.Key, Val: was}}
		switch {
		case op.Kind == oRange:
			told = api.Ans{N: len(in), Pairs: in}
		case op.Kind == oCount:
			told = api.Ans{N: len(in)}
		case op.Kind == oMin && len(want) > 0:
			told = api.Ans{Ok: true, Pair: want[0]}
		case op.Kind == oMax && len(want) > 0:
			told = api.Ans{Ok: true, Pair: want[len(want)-1]}
		case op.Kind >= oMin || !ok:
			told = api.Ans{}
		}
		if !alike(l, want) || !alikeAns(ans, told) {
			t.Fatalf("%d: %+v: %v, %+v, not %v, %+v", i, op, l, ans, want, told)
		}
		if !May(l) {
			t.Fatalf("%d: %v may not be", i, l)
		}
	}
}

// P13.3: what was told before stays as it was told, whatever is done after.
func TestOldLeavesStay(t *testing.T) {
	a, _ := Do(nil, api.Op{Kind: oPut, Key: 1, Val: 5})
	b, _ := Do(a, api.Op{Kind: oPut, Key: 3, Val: 6})
	_, r := Do(b, api.Op{Kind: oRange, Key: low, Hi: high})
	c, _ := Do(b, api.Op{Kind: oPut, Key: 2, Val: 7})
	d, _ := Do(b, api.Op{Kind: oPut, Key: 2, Val: 8})
	e, _ := Do(c, api.Op{Kind: oCut, Key: 1})
	f, _ := Do(d, api.Op{Kind: oPut, Key: 3, Val: 9})
	for i, x := range []struct{ got, want []api.Pair }{
		{a, pairs(1, 5)}, {b, pairs(1, 5, 3, 6)}, {r.Pairs, pairs(1, 5, 3, 6)}, {c, pairs(1, 5, 2, 7, 3, 6)},
		{d, pairs(1, 5, 2, 8, 3, 6)}, {e, pairs(2, 7, 3, 6)}, {f, pairs(1, 5, 2, 8, 3, 9)},
	} {
		if !alike(x.got, x.want) {
			t.Errorf("%d: %v, not %v", i, x.got, x.want)
		}
	}
}

// R2: what is handed in is not kept: changed later, it changes no answer.
func TestNotKept(t *testing.T) {
	l := pairs(1, 5, 4, 6, 7, 8)
	got, _ := Do(l, api.Op{Kind: oGet, Key: 1})
	_, ans := Do(l, api.Op{Kind: oRange, Key: 1, Hi: 7})
	bad, _ := Do(l, api.Op{})
	spoil(l)
	for i, m := range [][]api.Pair{got, ans.Pairs, bad} {
		if !alike(m, pairs(1, 5, 4, 6, 7, 8)) {
			t.Errorf("%d: %v", i, m)
		}
	}
	checkDo(t, l, api.Op{Kind: oGet, Key: 1}, l, wrong)
	if Find(l, 1) != -1 || Find(l, 777) != 0 || May(l) {
		t.Error("the list is kept")
	}
}

// The chapter's example: OPut 1 5, OGet 1 tells 5.
func TestExample(t *testing.T) {
	l, _ := Do(nil, api.Op{Kind: oPut, Key: 1, Val: 5})
	_, ans := Do(l, api.Op{Kind: oGet, Key: 1})
	if !ans.Ok || ans.Pair.Val != 5 || ans.Pair.Key != 1 {
		t.Errorf("%+v", ans)
	}
}
