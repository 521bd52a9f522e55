package model

import (
	"math"
	"slices"
	"testing"

	"osier/api"
	"osier/leaf"
)

// Kinds, by the document's order.
const (
	oPut   = 1
	oAdd   = 2
	oCut   = 3
	oGet   = 4
	oRange = 5
	oCount = 6
	oMin   = 7
	oMax   = 8
)

// The ends of int.
const (
	low  = math.MinInt
	high = math.MaxInt
)

// pairs is pairs by hand: key, value, key, value ..
func pairs(n ...int) []api.Pair {
	var l []api.Pair
	for i := 0; i < len(n); i += 2 {
		l = append(l, api.Pair{Key: n[i], Val: n[i+1]})
	}
	return l
}

// Operations, by hand. Those that need no value have one all the same, which
// would tell on who heeds it.
func put(key, val int) api.Op  { return api.Op{Kind: oPut, Key: key, Hi: -key, Val: val} }
func add(key, val int) api.Op  { return api.Op{Kind: oAdd, Key: key, Hi: -key, Val: val} }
func cut(key int) api.Op       { return api.Op{Kind: oCut, Key: key, Hi: 666, Val: 666} }
func get(key int) api.Op       { return api.Op{Kind: oGet, Key: key, Hi: 666, Val: 666} }
func within(lo, hi int) api.Op { return api.Op{Kind: oRange, Key: lo, Hi: hi, Val: 666} }
func count(lo, hi int) api.Op  { return api.Op{Kind: oCount, Key: lo, Hi: hi, Val: 666} }
func least() api.Op            { return api.Op{Kind: oMin, Key: 666, Hi: 555, Val: 666} }
func most() api.Op             { return api.Op{Kind: oMax, Key: 555, Hi: 666, Val: 666} }

// Answers, by hand.
func was(key, val int) api.Ans { return api.Ans{Ok: true, Pair: api.Pair{Key: key, Val: val}} }
func all(n ...int) api.Ans     { return api.Ans{N: len(n) / 2, Pairs: pairs(n...)} }
func many(n int) api.Ans       { return api.Ans{N: n} }

var (
	none  = api.Ans{}
	wrong = api.Ans{Err: 1}
)

// noKinds is numbers of no operation: one below, one above, the ends of int, and
// numbers whose lower 8, 16, 32 bits alone are one's.
var noKinds = []int{
	0, -1, -2, -8, 9, 10, 77, 1<<8 + 1, 1<<16 + 2, 1<<32 + 1, 1<<32 + 3, -1<<32 + 1, -1<<32 + 8,
	low, low + 1, low + 3, high - 1, high,
}

// alikeAns says whether two answers are, without the packages.
func alikeAns(a, b api.Ans) bool {
	return a.Err == b.Err && a.Ok == b.Ok && a.Pair == b.Pair && a.N == b.N && slices.Equal(a.Pairs, b.Pairs)
}

// alikeAll says whether two lists of answers are.
func alikeAll(a, b []api.Ans) bool { return slices.EqualFunc(a, b, alikeAns) }

// spoil writes over all of a list, and over what its capacity holds.
func spoil(l []api.Pair) {
	l = l[:cap(l)]
	for i := range l {
		l[i] = api.Pair{Key: 777, Val: 777}
	}
}

// guarded is the list with more behind its length, and the whole of it.
func guarded[T any](l []T, more ...T) (list, whole []T) {
	whole = slices.Concat(l, more)
	return whole[:len(l)], whole
}

// keyed is what each key has: a map without the packages.
type keyed map[int]int

// of is what each key of these pairs has, the later one where one stands twice.
func of(l []api.Pair) keyed {
	k := keyed{}
	for _, p := range l {
		k[p.Key] = p.Val
	}
	return k
}

// pairs is the pairs by key, from lo to hi.
func (k keyed) pairs(lo, hi int) []api.Pair {
	var keys []int
	for key := range k {
		if lo <= key && key <= hi {
			keys = append(keys, key)
		}
	}
	slices.Sort(keys)
	var l []api.Pair
	for _, key := range keys {
		l = append(l, api.Pair{Key: key, Val: k[key]})
	}
	return l
}

// do does the operation, by the words of the document.
func (k keyed) do(op api.Op) api.Ans {
	l, in := k.pairs(low, high), k.pairs(op.Key, op.Hi)
	val, there := k[op.Key]
	switch {
	case op.Kind < oPut || op.Kind > oMax:
		return wrong
	case op.Kind == oRange:
		return api.Ans{N: len(in), Pairs: in}
	case op.Kind == oCount:
		return many(len(in))
	case op.Kind >= oMin && len(l) == 0:
		return none
	case op.Kind == oMin:
		return api.Ans{Ok: true, Pair: l[0]}
	case op.Kind == oMax:
		return api.Ans{Ok: true, Pair: l[len(l)-1]}
	case op.Kind == oPut || op.Kind == oAdd && !there:
		k[op.Key] = op.Val
	case op.Kind == oCut:
		delete(k, op.Key)
	}
	if !there {
		return none
	}
	return was(op.Key, val)
}

// check is that the map has just these pairs, and that what it tells of them is
// its own no more.
func check(t *testing.T, m *Map, want []api.Pair) {
	t.Helper()
	for range 2 {
		got, again := m.Pairs(), m.Pairs()
		if !slices.Equal(got, want) || m.Len() != len(want) {
			t.Fatalf("the map has %d: %v, not %v", m.Len(), got, want)
		}
		spoil(got)
		if !slices.Equal(again, want) {
			t.Fatalf("two lists of Pairs share memory: %v, not %v", again, want)
		}
		spoil(again)
	}
}

// checkNew is New of these pairs, with more behind them, in whatever order.
func checkNew(t *testing.T, l, want []api.Pair) {
	t.Helper()
	more := pairs(low, 666, 0, 666, 1, 666, high, 666)
	list, whole := guarded(l, more...)
	m, n := New(list...), New(list...)
	check(t, m, want)
	if !slices.Equal(whole, slices.Concat(l, more)) {
		t.Fatalf("New(%v): what was handed in is %v now", l, whole)
	}
	spoil(list)
	check(t, m, want)
	check(t, n, want)
	m.Do(put(4, 888))
	m.Do(cut(1))
	check(t, n, want)
	for _, p := range whole {
		if p.Key != 777 || p.Val != 777 {
			t.Fatalf("New(%v): the map shares memory with what was handed in: %v", l, whole)
		}
	}
}

// checkDo is one operation on a map of these pairs: what it tells is what the
// document says and what leaf.Do tells, and so are the pairs afterwards.
func checkDo(t *testing.T, l []api.Pair, op api.Op) {
	t.Helper()
	k := of(l)
	before := k.pairs(low, high)
	told := k.do(op)
	after := k.pairs(low, high)
	m, n := New(l...), New(l...)
	a, b := m.Do(op), n.Do(op)
	if !alikeAns(a, told) {
		t.Fatalf("Do(%+v) of %v: %+v, not %+v", op, before, a, told)
	}
	left, c := leaf.Do(before, op)
	if !alikeAns(a, c) || !slices.Equal(left, m.Pairs()) {
		t.Fatalf("Do(%+v) of %v: %+v, %v, not as leaf.Do: %+v, %v", op, before, a, m.Pairs(), c, left)
	}
	spoil(a.Pairs)
	check(t, m, after)
	check(t, n, after)
	if !alikeAns(b, told) {
		t.Fatalf("Do(%+v) of %v: two answers share memory: %+v", op, before, b)
	}
}

// P16.1: the numbers above are the document's.
func TestNumbers(t *testing.T) {
	for i, k := range []int{api.OPut, api.OAdd, api.OCut, api.OGet, api.ORange, api.OCount, api.OMin, api.OMax} {
		if k != i+1 {
			t.Errorf("kind %d is %d", i+1, k)
		}
	}
	if api.OK != 0 || api.ErrArg != 1 {
		t.Errorf("OK %d, ErrArg %d", api.OK, api.ErrArg)
	}
}

// P16.1: New of none, one, many, keys that stand twice and oftener, the ends of
// int.
func TestNew(t *testing.T) {
	check(t, New(), nil)
	for _, r := range []struct{ l, want []api.Pair }{
		{nil, nil}, {[]api.Pair{}, nil},
		{pairs(1, 5), pairs(1, 5)}, {pairs(0, 0), pairs(0, 0)}, {pairs(-1, -5), pairs(-1, -5)}, {pairs(low, high), pairs(low, high)}, {pairs(high, low), pairs(high, low)},
		{pairs(1, 5, 2, 6), pairs(1, 5, 2, 6)}, {pairs(2, 6, 1, 5), pairs(1, 5, 2, 6)}, {pairs(1, 6, -1, 5), pairs(-1, 5, 1, 6)},
		{pairs(5, 1, 4, 2, 3, 3, 2, 4, 1, 5), pairs(1, 5, 2, 4, 3, 3, 4, 2, 5, 1)},
		// Twice and oftener: the later one, be its value greater, smaller, zero, the same.
		{pairs(1, 5, 1, 6), pairs(1, 6)}, {pairs(1, 6, 1, 5), pairs(1, 5)}, {pairs(1, 5, 1, 0), pairs(1, 0)}, {pairs(1, 0, 1, 5), pairs(1, 5)}, {pairs(1, 5, 1, 5), pairs(1, 5)},
		{pairs(1, 5, 1, 7, 1, 6), pairs(1, 6)}, {pairs(1, 7, 1, 5, 1, 6, 1, 5), pairs(1, 5)}, {pairs(0, 0, 0, 0, 0, 0), pairs(0, 0)},
		{pairs(3, 1, 1, 2, 3, 9), pairs(1, 2, 3, 9)}, {pairs(1, 1, 2, 2, 1, 3, 2, 4), pairs(1, 3, 2, 4)}, {pairs(2, 1, 1, 2, 1, 3, 2, 4), pairs(1, 3, 2, 4)},
		{pairs(1, 1, 1, 2, 2, 3, 3, 4), pairs(1, 2, 2, 3, 3, 4)}, {pairs(1, 1, 2, 2, 2, 3, 3, 4), pairs(1, 1, 2, 3, 3, 4)}, {pairs(1, 1, 2, 2, 3, 3, 3, 4), pairs(1, 1, 2, 2, 3, 4)},
		{pairs(5, 1, 9, 2, 5, 3, 1, 4, 5, 5, 9, 6, 5, 7), pairs(1, 4, 5, 7, 9, 6)},
		// The ends of int, where what lies between two keys goes round.
		{pairs(high, 1, low, 2), pairs(low, 2, high, 1)}, {pairs(low, 1, high, 2), pairs(low, 1, high, 2)}, {pairs(high, 1, 0, 2, low, 3), pairs(low, 3, 0, 2, high, 1)},
		{pairs(high, low, low, high, high, high, low, low), pairs(low, low, high, high)}, {pairs(high, 1, high-1, 2, low+1, 3, low, 4), pairs(low, 4, low+1, 3, high-1, 2, high, 1)},
		{pairs(1, 1, low, 2), pairs(low, 2, 1, 1)}, {pairs(high, 1, -2, 2), pairs(-2, 2, high, 1)},
		// Keys whose lower 32 bits are alike, or the other way round.
		{pairs(1<<32+5, 1, 5, 2), pairs(5, 2, 1<<32+5, 1)}, {pairs(1<<32, 1, 7, 2), pairs(7, 2, 1<<32, 1)},
	} {
		checkNew(t, r.l, r.want)
	}
}

// P16.1: New of five pairs in every order, with keys that stand once to five
// times.
func TestNewEveryOrder(t *testing.T) {
	var each func(l []api.Pair, n int)
	each = func(l []api.Pair, n int) {
		if len(l) == n {
			checkNew(t, l, of(l).pairs(low, high))
			return
		}
		for key := -2; key < 3; key++ {
			each(append(slices.Clone(l), api.Pair{Key: key, Val: 10 - len(l)}), n)
		}
	}
	for n := range 6 {
		each(nil, n)
	}
}

// P16.1: New of very many, each key oftener and some way off from where it stood.
func TestNewOfVeryMany(t *testing.T) {
	const n = 300000
	var l, want []api.Pair
	for i := range n {
		l = append(l, api.Pair{Key: -(i * 7919 % (n / 3)), Val: i})
	}
	last := map[int]int{}
	for _, p := range l {
		last[p.Key] = p.Val
	}
	for key := 1 - n/3; key <= 0; key++ {
		if val, there := last[key]; there {
			want = append(want, api.Pair{Key: key, Val: val})
		}
	}
	checkNew(t, l, want)
}

// P16.1: each kind of operation on each set of the keys 0 to 4, with keys that
// are there and that are not, ranges the right way and the wrong way round.
func TestEvery(t *testing.T) {
	for set := range 1 << 5 {
		// The pairs backwards, ahead of each an older one of its key.
		var l []api.Pair
		for key := 4; key >= 0; key-- {
			if set>>key&1 == 1 {
				l = append(l, pairs(key, 99, key, 10*key+3)...)
			}
		}
		for kind := oPut; kind <= oMax; kind++ {
			for key := -1; key <= 5; key++ {
				for hi := -1; hi <= 5; hi++ {
					checkDo(t, l, api.Op{Kind: kind, Key: key, Hi: hi, Val: 77})
				}
			}
		}
	}
}

// P16.1: each kind of operation with keys, ends and values at the ends of int.
func TestEnds(t *testing.T) {
	ends := []int{low, low + 1, -1, 0, 1, high - 1, high}
	for _, l := range [][]api.Pair{nil, pairs(low, high), pairs(high, low), pairs(high, 1, low, 2), pairs(high, low, 0, 0, low, high), pairs(high-1, 3, low+1, 4), pairs(1<<32, 1, 0, 2)} {
		for kind := oPut; kind <= oMax; kind++ {
			for _, key := range ends {
				for _, hi := range ends {
					checkDo(t, l, api.Op{Kind: kind, Key: key, Hi: hi, Val: high})
					checkDo(t, l, api.Op{Kind: kind, Key: key, Hi: hi, Val: low})
				}
			}
		}
	}
}

// P16.1, R4: an operation that may not be: ErrArg, all else in the answer zero,
// and the map stays as it was.
func TestErrArg(t *testing.T) {
	for _, l := range [][]api.Pair{nil, pairs(1, 5), pairs(0, 0), pairs(3, 1, 1, 2, 3, 9), pairs(high, 1, low, 2)} {
		for _, kind := range noKinds {
			for _, key := range []int{0, 1, 3, low, high} {
				checkDo(t, l, api.Op{Kind: kind, Key: key, Hi: high, Val: 7})
			}
		}
	}
	m := New(pairs(1, 5, 3, 6)...)
	var bad []api.Op
	for _, kind := range noKinds {
		bad = append(bad, api.Op{Kind: kind, Key: 1, Hi: 3, Val: 7})
	}
	for i, a := range m.Run(bad...) {
		if !alikeAns(a, wrong) {
			t.Errorf("%+v: %+v", bad[i], a)
		}
	}
	check(t, m, pairs(1, 5, 3, 6))
}

// P16.1: each operation by hand, one after the other on one map.
func TestRun(t *testing.T) {
	rows := []struct {
		op    api.Op
		told  api.Ans
		after []api.Pair
	}{
		{get(1), none, nil}, {cut(1), none, nil}, {least(), none, nil}, {most(), none, nil}, {within(low, high), none, nil}, {count(low, high), none, nil},
		{put(1, 5), none, pairs(1, 5)}, {get(1), was(1, 5), pairs(1, 5)}, {put(1, 6), was(1, 5), pairs(1, 6)}, {add(1, 7), was(1, 6), pairs(1, 6)},
		{add(0, 0), none, pairs(0, 0, 1, 6)}, {add(0, 8), was(0, 0), pairs(0, 0, 1, 6)}, {get(0), was(0, 0), pairs(0, 0, 1, 6)}, {get(2), none, pairs(0, 0, 1, 6)},
		{api.Op{Kind: 9, Key: 1}, wrong, pairs(0, 0, 1, 6)}, {api.Op{}, wrong, pairs(0, 0, 1, 6)},
		{put(high, low), none, pairs(0, 0, 1, 6, high, low)}, {put(low, high), none, pairs(low, high, 0, 0, 1, 6, high, low)},
		{least(), was(low, high), pairs(low, high, 0, 0, 1, 6, high, low)}, {most(), was(high, low), pairs(low, high, 0, 0, 1, 6, high, low)},
		{within(0, 1), all(0, 0, 1, 6), pairs(low, high, 0, 0, 1, 6, high, low)}, {within(1, 0), all(), pairs(low, high, 0, 0, 1, 6, high, low)},
		{count(1, high), many(2), pairs(low, high, 0, 0, 1, 6, high, low)}, {count(high, 1), many(0), pairs(low, high, 0, 0, 1, 6, high, low)},
		{within(low, high), all(low, high, 0, 0, 1, 6, high, low), pairs(low, high, 0, 0, 1, 6, high, low)},
		{cut(0), was(0, 0), pairs(low, high, 1, 6, high, low)}, {cut(0), none, pairs(low, high, 1, 6, high, low)}, {cut(low), was(low, high), pairs(1, 6, high, low)},
		{cut(high), was(high, low), pairs(1, 6)}, {least(), was(1, 6), pairs(1, 6)}, {most(), was(1, 6), pairs(1, 6)}, {cut(1), was(1, 6), nil}, {most(), none, nil},
	}
	m := New()
	var ops []api.Op
	var told []api.Ans
	for i, r := range rows {
		if a := m.Do(r.op); !alikeAns(a, r.told) {
			t.Errorf("%d: %+v: %+v, not %+v", i, r.op, a, r.told)
		}
		check(t, m, r.after)
		ops, told = append(ops, r.op), append(told, r.told)
		// So many of them in one Run.
		n := New()
		if got := n.Run(ops...); !alikeAll(got, told) {
			t.Errorf("%d: Run: %+v, not %+v", i, got, told)
		}
		check(t, n, r.after)
	}
}

// P16.1: Run of none tells nothing, and does nothing; of one it is Do.
func TestRunOfFew(t *testing.T) {
	for _, l := range [][]api.Pair{nil, pairs(1, 5), pairs(4, 6, 1, 5)} {
		want := of(l).pairs(low, high)
		m := New(l...)
		if a, b := m.Run(), m.Run([]api.Op{}...); len(a) != 0 || len(b) != 0 {
			t.Errorf("Run of none: %v, %v", a, b)
		}
		check(t, m, want)
		for _, op := range []api.Op{put(1, 7), put(2, 7), add(1, 7), add(2, 7), cut(1), cut(2), get(1), get(2), within(0, 9), count(0, 9), least(), most(), {Kind: 9}} {
			m, k := New(l...), of(l)
			told := k.do(op)
			if a := m.Run(op); !alikeAll(a, []api.Ans{told}) {
				t.Errorf("Run(%+v) of %v: %+v, not %+v", op, want, a, told)
			}
			check(t, m, k.pairs(low, high))
		}
	}
}

// P16.1, R2: Run neither changes nor keeps what it is handed, and no two lists
// that it tells share memory.
func TestRunsMemory(t *testing.T) {
	ops := []api.Op{within(0, 9), put(5, 50), within(0, 9), within(0, 9), within(5, 5), {Kind: 9}, within(2, 5), within(9, 0)}
	told := []api.Ans{all(1, 10, 3, 30), none, all(1, 10, 3, 30, 5, 50), all(1, 10, 3, 30, 5, 50), all(5, 50), wrong, all(3, 30, 5, 50), all()}
	more := []api.Op{put(7, 70), cut(1)}
	list, whole := guarded(ops, more...)
	for range 2 {
		m := New(pairs(1, 10, 3, 30)...)
		got := m.Run(list...)
		other := m.Run(within(0, 9))
		if !slices.Equal(whole, slices.Concat(ops, more)) {
			t.Fatalf("what was handed in is %+v now", whole)
		}
		for i := range got {
			if !alikeAll(got[i:], told[i:]) {
				t.Fatalf("from %d on: %+v, not %+v", i, got[i:], told[i:])
			}
			spoil(got[i].Pairs)
		}
		if !alikeAll(other, []api.Ans{told[2]}) {
			t.Fatalf("two answers share memory: %+v", other)
		}
		check(t, m, pairs(1, 10, 3, 30, 5, 50))
		m.Do(put(3, 31))
		check(t, m, pairs(1, 10, 3, 31, 5, 50))
	}
	m := New()
	got := m.Run(list...)
	list[0] = api.Op{Kind: 99}
	if again := m.Run(get(5)); !alikeAll(again, []api.Ans{was(5, 50)}) || got[0].Err != 0 {
		t.Errorf("the operations are kept: %+v, %+v", again, got)
	}
}

// P16.1, R2: what was told stays as it was told, whatever is done to the map
// afterwards.
func TestToldStays(t *testing.T) {
	m := New(pairs(1, 10, 3, 30, 5, 50)...)
	first, r := m.Pairs(), m.Do(within(1, 3))
	told := m.Run(within(low, high), put(3, 31), within(3, 9))
	for _, op := range []api.Op{put(1, 11), put(3, 32), put(5, 51), cut(3), put(2, 20), put(4, 40), cut(1), cut(5), {Kind: 9}} {
		m.Do(op)
		if !slices.Equal(first, pairs(1, 10, 3, 30, 5, 50)) || !alikeAns(r, all(1, 10, 3, 30)) || !alikeAll(told, []api.Ans{all(1, 10, 3, 30, 5, 50), was(3, 30), all(3, 31, 5, 50)}) {
			t.Fatalf("after %+v: %v, %+v, %+v", op, first, r, told)
		}
	}
	check(t, m, pairs(2, 20, 4, 40))
}

// changes is operations that leave none of the pairs 1 to 5 as it is.
var changes = []api.Op{put(1, 99), put(3, 99), put(5, 99), put(0, 99), add(2, 99), add(9, 99), cut(1), cut(3), cut(5), cut(4), put(6, 99), cut(low), put(low, 99), put(high, 99), {Kind: 9, Key: 1}}

// P16.1: a copy is a map of its own: what is done to one changes nothing in the
// other, either way round.
func TestCopy(t *testing.T) {
	for _, l := range [][]api.Pair{nil, pairs(1, 5), pairs(3, 6, 1, 5), pairs(5, 1, 4, 2, 3, 3, 2, 4, 1, 5), pairs(high, 1, low, 2)} {
		want := of(l).pairs(low, high)
		for swapped := range 2 {
			m := New(l...)
			c := m.Copy()
			if c == nil || c == m {
				t.Fatalf("the copy of %p is %p", m, c)
			}
			check(t, c, want)
			stays, goes := m, c
			if swapped == 1 {
				stays, goes = c, m
			}
			k := of(l)
			for _, op := range changes {
				if a, told := goes.Do(op), k.do(op); !alikeAns(a, told) {
					t.Fatalf("%+v of %v: %+v, not %+v", op, want, a, told)
				}
				check(t, goes, k.pairs(low, high))
				check(t, stays, want)
			}
			if a := stays.Do(within(low, high)); !slices.Equal(a.Pairs, want) || a.N != len(want) {
				t.Fatalf("%+v, not %v", a, want)
			}
		}
	}
}

// P16.1: copies of copies, taken on the way: each has what was there then, and
// goes its own way from there.
func TestCopies(t *testing.T) {
	m, k := New(pairs(1, 5, 3, 6, 5, 7)...), of(pairs(1, 5, 3, 6, 5, 7))
	var copies []*Map
	var wants [][]api.Pair
	for i, op := range changes {
		copies, wants = append(copies, m.Copy()), append(wants, k.pairs(low, high))
		if i%3 == 0 {
			m = copies[i].Copy()
		}
		m.Do(op)
		k.do(op)
	}
	check(t, m, k.pairs(low, high))
	for i, c := range copies {
		check(t, c, wants[i])
		k := of(wants[i])
		for _, op := range changes {
			c.Do(op)
			k.do(op)
		}
		check(t, c, k.pairs(low, high))
	}
}

// P16.1: a nil map with every call: zero values, ErrArg.
func TestNil(t *testing.T) {
	var m *Map
	for range 2 {
		for kind := -1; kind <= 9; kind++ {
			op := api.Op{Kind: kind, Key: 1, Hi: 2, Val: 3}
			if a := m.Do(op); !alikeAns(a, wrong) {
				t.Errorf("Do(%+v): %+v", op, a)
			}
			if l := m.Run(op, op); len(l) != 0 {
				t.Errorf("Run(%+v): %+v", op, l)
			}
		}
		if l := m.Run(); len(l) != 0 {
			t.Errorf("Run: %+v", l)
		}
		if l := m.Pairs(); len(l) != 0 {
			t.Errorf("Pairs: %v", l)
		}
		if n := m.Len(); n != 0 {
			t.Errorf("Len: %d", n)
		}
		if c := m.Copy(); c != nil {
			t.Errorf("Copy: %v", c)
		}
	}
}

// R3: a map that New did not make is one of no pairs.
func TestNotMade(t *testing.T) {
	check(t, &Map{}, nil)
	check(t, (&Map{}).Copy(), nil)
	m := &Map{}
	if a := m.Run(get(0), put(0, 5), get(0), within(low, high)); !alikeAll(a, []api.Ans{none, none, was(0, 5), all(0, 5)}) {
		t.Errorf("%+v", a)
	}
	check(t, m, pairs(0, 5))
}

// P16.2: many operations in a row, with copies and new maps of what is there on
// the way: the map is what its last updates made of each key, and the maps left
// behind stay as they were.
func TestManyInARow(t *testing.T) {
	keys := []int{low, low + 1, -1 << 32, -7, -1, 0, 1, 2, 3, 5, 8, 1 << 32, 1<<32 + 1, high - 1, high}
	turn := uint64(54321)
	next := func(n int) int {
		turn = turn*6364136223846793005 + 1442695040888963407
		return int(turn >> 33 % uint64(n))
	}
	m, k := New(), keyed{}
	var left []*Map
	var wants [][]api.Pair
	for i := range 6000 {
		var ops []api.Op
		var told []api.Ans
		for range next(5) {
			op := api.Op{Kind: next(10), Key: keys[next(len(keys))], Hi: keys[next(len(keys))], Val: i - 3000}
			ops, told = append(ops, op), append(told, k.do(op))
		}
		if a := m.Run(ops...); !alikeAll(a, told) {
			t.Fatalf("%d: %+v: %+v, not %+v", i, ops, a, told)
		}
		want := k.pairs(low, high)
		check(t, m, want)
		if i%100 == 0 {
			left, wants = append(left, m), append(wants, want)
			m = m.Copy()
		}
		if i%100 == 50 {
			left, wants = append(left, m), append(wants, want)
			m = New(slices.Concat(pairs(5, 1, 0, 2), m.Pairs(), pairs(5, i, 5, -i))...)
			k[5] = -i
			if _, there := k[0]; !there {
				k[0] = 2
			}
		}
	}
	for i := range left {
		check(t, left[i], wants[i])
	}
}

// P16.2: of each key what its last update made of it, whatever came ahead of
// that, and whatever is there of other keys.
func TestLastUpdates(t *testing.T) {
	stays := func(had []api.Pair) []api.Pair { return had }
	is := func(l []api.Pair) func([]api.Pair) []api.Pair {
		return func([]api.Pair) []api.Pair { return l }
	}
	added := func(had []api.Pair) []api.Pair {
		if len(had) == 0 {
			return pairs(4, 9)
		}
		return had
	}
	rows := []struct {
		op    api.Op
		makes func(had []api.Pair) []api.Pair
	}{
		{put(4, 7), is(pairs(4, 7))}, {put(4, 8), is(pairs(4, 8))}, {cut(4), is(nil)}, {add(4, 9), added},
		{get(4), stays}, {within(4, 4), stays}, {api.Op{Kind: 9, Key: 4, Val: 1}, stays},
	}
	var each func(ops []api.Op, now []api.Pair)
	each = func(ops []api.Op, now []api.Pair) {
		m := New(pairs(5, 50, 3, 30)...)
		m.Run(ops...)
		check(t, m, slices.Concat(pairs(3, 30), now, pairs(5, 50)))
		if len(ops) == 4 {
			return
		}
		for _, r := range rows {
			each(append(slices.Clone(ops), r.op), r.makes(now))
		}
	}
	each(nil, nil)
}

// The chapter's example: New, Run of OPut 1 5, OGet 1 tells none, and 5.
func TestExample(t *testing.T) {
	a := New().Run(api.Op{Kind: oPut, Key: 1, Val: 5}, api.Op{Kind: oGet, Key: 1})
	if len(a) != 2 || a[0].Ok || !alikeAns(a[0], none) || !a[1].Ok || a[1].Pair.Val != 5 || a[1].Pair.Key != 1 {
		t.Errorf("%+v", a)
	}
}
