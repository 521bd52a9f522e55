package order

import (
	"fmt"
	"math"
	"slices"
	"testing"

	"osier/api"
)

// Kinds and bounds, by the document.
const (
	oPut   = 1
	oAdd   = 2
	oCut   = 3
	oGet   = 4
	oRange = 5
	oCount = 6
	oMin   = 7
	oMax   = 8

	maxThreads = 6
)

// The ends of int.
const (
	low  = math.MinInt
	high = math.MaxInt
)

// pairs is pairs by hand: key, value, key, value ..
func pairs(n ...int) []api.Pair {
	var l []api.Pair
	for i := 0; i < len(n); i += 2 {
		l = append(l, api.Pair{Key: n[i], Val: n[i+1]})
	}
	return l
}

// Operations, by hand. Those that need no value have one all the same, which
// would tell on who heeds it.
func put(key, val int) api.Op  { return api.Op{Kind: oPut, Key: key, Hi: -key, Val: val} }
func add(key, val int) api.Op  { return api.Op{Kind: oAdd, Key: key, Hi: -key, Val: val} }
func cut(key int) api.Op       { return api.Op{Kind: oCut, Key: key, Hi: 666, Val: 666} }
func get(key int) api.Op       { return api.Op{Kind: oGet, Key: key, Hi: 666, Val: 666} }
func within(lo, hi int) api.Op { return api.Op{Kind: oRange, Key: lo, Hi: hi, Val: 666} }
func count(lo, hi int) api.Op  { return api.Op{Kind: oCount, Key: lo, Hi: hi, Val: 666} }
func least() api.Op            { return api.Op{Kind: oMin, Key: 666, Hi: 555, Val: 666} }
func most() api.Op             { return api.Op{Kind: oMax, Key: 555, Hi: 666, Val: 666} }

// Answers, by hand.
func was(key, val int) api.Ans { return api.Ans{Ok: true, Pair: api.Pair{Key: key, Val: val}} }
func all(n ...int) api.Ans     { return api.Ans{N: len(n) / 2, Pairs: pairs(n...)} }
func many(n int) api.Ans       { return api.Ans{N: n} }

var none = api.Ans{}

// full is what a call tells that was refused.
var full = api.Ans{Err: 2}

// refusals is every other way to tell that a call was refused, whatever is told
// beside it.
var refusals = []api.Ans{
	full, {Err: 1}, {Err: 3}, {Err: 4}, {Err: 5}, {Err: -1}, {Err: 77}, {Err: 1 << 8}, {Err: 1 << 32}, {Err: low}, {Err: high},
	{Err: 2, Ok: true, Pair: api.Pair{Key: 1, Val: 5}}, {Err: 1, N: 1, Pairs: pairs(1, 5)},
}

// call is a call by hand: its thread, the places where it began and returned
// (-1: it has not), what it asks for and is told.
func call(thread, from, to int, op api.Op, ans api.Ans) api.Call {
	return api.Call{Thread: thread, From: from, To: to, Op: op, Ans: ans}
}

// open is a call that has not returned.
func open(thread, from int, op api.Op) api.Call { return call(thread, from, -1, op, none) }

// of is the history of these calls.
func of(l ...api.Call) []api.Event {
	n := len(l)
	for _, c := range l {
		if c.To >= 0 {
			n++
		}
	}
	h := make([]api.Event, n)
	for _, c := range l {
		h[c.From] = api.Event{Thread: c.Thread, Op: c.Op}
		if c.To >= 0 {
			h[c.To] = api.Event{Thread: c.Thread, Ret: true, Op: c.Op, Ans: c.Ans}
		}
	}
	return h
}

// upTo is the numbers below n, in order.
func upTo(n int) []int {
	l := make([]int, n)
	for i := range l {
		l[i] = i
	}
	return l
}

// alikeAns says whether both answers are the same.
func alikeAns(a, b api.Ans) bool {
	return a.Err == b.Err && a.Ok == b.Ok && a.Pair == b.Pair && a.N == b.N && slices.Equal(a.Pairs, b.Pairs)
}

func alikeEvent(e, f api.Event) bool {
	return e.Thread == f.Thread && e.Ret == f.Ret && e.Op == f.Op && alikeAns(e.Ans, f.Ans)
}

// keyed is what each key has: a map without the packages.
type keyed map[int]int

// of is the pairs by key, from lo to hi.
func (k keyed) of(lo, hi int) []api.Pair {
	var keys []int
	for key := range k {
		if lo <= key && key <= hi {
			keys = append(keys, key)
		}
	}
	slices.Sort(keys)
	var l []api.Pair
	for _, key := range keys {
		l = append(l, api.Pair{Key: key, Val: k[key]})
	}
	return l
}

// do does an operation that may be, by the words of the document.
func (k keyed) do(op api.Op) api.Ans {
	l, in := k.of(low, high), k.of(op.Key, op.Hi)
	val, there := k[op.Key]
	switch {
	case op.Kind == oRange:
		return api.Ans{N: len(in), Pairs: in}
	case op.Kind == oCount:
		return many(len(in))
	case op.Kind >= oMin && len(l) == 0:
		return none
	case op.Kind == oMin:
		return api.Ans{Ok: true, Pair: l[0]}
	case op.Kind == oMax:
		return api.Ans{Ok: true, Pair: l[len(l)-1]}
	case op.Kind == oPut || op.Kind == oAdd && !there:
		k[op.Key] = op.Val
	case op.Kind == oCut:
		delete(k, op.Key)
	}
	if !there {
		return none
	}
	return was(op.Key, val)
}

// keyedOf is a map of these pairs, and whether they may be: each key is above
// all those ahead of it.
func keyedOf(l []api.Pair) (keyed, bool) {
	k := keyed{}
	for i, p := range l {
		for _, q := range l[:i] {
			if q.Key >= p.Key {
				return nil, false
			}
		}
		k[p.Key] = p.Val
	}
	return k, true
}

// mayBe says whether the history may be, one thread after the other.
func mayBe(h []api.Event) bool {
	seen := 0
	for thread := range maxThreads {
		ret, op := false, api.Op{}
		for _, e := range h {
			if e.Thread != thread {
				continue
			}
			seen++
			if e.Ret != ret || e.Ret && e.Op != op {
				return false
			}
			if !e.Ret && (e.Op.Kind < oPut || e.Op.Kind > oMax || !alikeAns(e.Ans, none)) {
				return false
			}
			ret, op = !ret, e.Op
		}
	}
	return seen == len(h)
}

// callsOf is the calls of a history that may be: to each the next event of its
// thread.
func callsOf(h []api.Event) []api.Call {
	var l []api.Call
	for from, e := range h {
		if e.Ret {
			continue
		}
		c := open(e.Thread, from, e.Op)
		for i := len(h) - 1; i > from; i-- {
			if h[i].Thread == e.Thread {
				c.To, c.Ans = i, h[i].Ans
			}
		}
		l = append(l, c)
	}
	return l
}

// namesOf says whether the order names what it must, and nothing else.
func namesOf(calls []api.Call, l []int) bool {
	times := map[int]int{}
	for _, at := range l {
		times[at]++
	}
	for at, c := range calls {
		switch n := times[at]; {
		case n > 1, n == 1 && c.To >= 0 && c.Ans.Err != 0, n == 0 && c.To >= 0 && c.Ans.Err == 0:
			return false
		}
		delete(times, at)
	}
	return len(times) == 0
}

// endsOf is Ends, by its sentence.
func endsOf(begin []api.Pair, h []api.Event, l []int) ([]api.Pair, bool) {
	k, may := keyedOf(begin)
	if !may || !mayBe(h) {
		return nil, false
	}
	calls := callsOf(h)
	if !namesOf(calls, l) {
		return nil, false
	}
	for i, at := range l {
		for _, behind := range l[i:] {
			if to := calls[behind].To; to >= 0 && to < calls[at].From {
				return nil, false
			}
		}
	}
	for _, at := range l {
		c := calls[at]
		if told := k.do(c.Op); c.To >= 0 && !alikeAns(told, c.Ans) {
			return nil, false
		}
	}
	return k.of(low, high), true
}

// handed is what is handed in.
type handed struct {
	begin []api.Pair
	h     []api.Event
	l     []int
}

// guarded is the same in memory of its own, with more behind the end of each of
// its lists.
func (x handed) guarded() handed {
	begin := append(slices.Clone(x.begin), pairs(666, 667, low, 668)...)
	h := append(slices.Clone(x.h), api.Event{Ret: true, Op: get(1)}, api.Event{Thread: maxThreads})
	l := append(slices.Clone(x.l), 0, -1)
	for i := range h {
		told := h[i].Ans.Pairs
		h[i].Ans.Pairs = append(slices.Clone(told), pairs(1, 5)...)[:len(told)]
	}
	return handed{begin[:len(x.begin)], h[:len(x.h)], l[:len(x.l)]}
}

// whole is a copy of it, with what lies behind the ends of its lists.
func (x handed) whole() handed {
	h := slices.Clone(x.h[:cap(x.h)])
	for i := range h {
		told := h[i].Ans.Pairs
		h[i].Ans.Pairs = slices.Clone(told[:cap(told)])
	}
	return handed{slices.Clone(x.begin[:cap(x.begin)]), h, slices.Clone(x.l[:cap(x.l)])}
}

func (x handed) same(y handed) bool {
	return slices.Equal(x.begin, y.begin) && slices.EqualFunc(x.h, y.h, alikeEvent) && slices.Equal(x.l, y.l)
}

// spoil writes over the pairs, and over what lies behind them.
func spoil(l []api.Pair) {
	l = l[:cap(l)]
	for i := range l {
		l[i] = api.Pair{Key: -777, Val: -778}
	}
}

// String is the text of what is handed in, unless it is long.
func (x handed) String() string {
	if len(x.begin)+len(x.h)+len(x.l) > 500 {
		return fmt.Sprintf("%d pairs, %d events, an order of %d", len(x.begin), len(x.h), len(x.l))
	}
	return fmt.Sprintf("%v, %v, %v", x.begin, x.h, x.l)
}

// check holds Right and Ends against whether the order is right, and the pairs at
// the end, if it is. Nothing that is handed in may change, and nothing that is
// told may share memory.
func check(t *testing.T, begin []api.Pair, h []api.Event, l []int, want []api.Pair, right bool) {
	t.Helper()
	if !right {
		want = nil
	}
	x := handed{begin, h, l}.guarded()
	before := x.whole()
	if Right(x.begin, x.h, x.l) != right {
		t.Errorf("%v: Right tells %v", x, !right)
	}
	first, yes := Ends(x.begin, x.h, x.l)
	second, again := Ends(x.begin, x.h, x.l)
	if yes != right || again != right {
		t.Errorf("%v: Ends tells %v, then %v, not %v", x, yes, again, right)
	}
	if !slices.Equal(first, want) || !slices.Equal(second, want) {
		t.Errorf("%v: Ends tells other pairs than wanted: %v", x, handed{begin: first})
		return
	}
	spoil(first)
	if !x.whole().same(before) {
		t.Errorf("%v: is not what was handed in any more", x)
	}
	if !slices.Equal(second, want) {
		t.Errorf("%v: two answers of Ends share memory", x)
	}
}

// checkNot checks that the order is not right.
func checkNot(t *testing.T, begin []api.Pair, h []api.Event, l ...int) {
	t.Helper()
	check(t, begin, h, l, nil, false)
}

// checkOf checks an order against the sentences.
func checkOf(t *testing.T, begin []api.Pair, h []api.Event, l []int) bool {
	t.Helper()
	want, ok := endsOf(begin, h, l)
	check(t, begin, h, l, want, ok)
	return ok
}

// rolls is numbers below n, one after the other, always the same ones.
func rolls() func(n int) int {
	x := uint64(19)
	return func(n int) int {
		x = x*6364136223846793005 + 1442695040888963407
		return int(x>>33) % n
	}
}

// orders calls f with each list of so many of these numbers at most, each as
// often as it comes.
func orders(of []int, n int, f func(l []int)) {
	var grow func(l []int)
	grow = func(l []int) {
		f(l)
		for _, at := range of {
			if len(l) < n {
				grow(append(slices.Clone(l), at))
			}
		}
	}
	grow(nil)
}

// turns calls f with each order of the list.
func turns(l []int, f func(l []int)) {
	var grow func(l, left []int)
	grow = func(l, left []int) {
		if len(left) == 0 {
			f(l)
		}
		for i, at := range left {
			grow(append(slices.Clone(l), at), slices.Delete(slices.Clone(left), i, i+1))
		}
	}
	grow(nil, l)
}

// TestNumbers: the numbers are the document's.
func TestNumbers(t *testing.T) {
	kinds := []int{api.OPut, api.OAdd, api.OCut, api.OGet, api.ORange, api.OCount, api.OMin, api.OMax}
	if !slices.Equal(kinds, upTo(oMax + 1)[1:]) || api.OK != 0 || api.MaxThreads != maxThreads {
		t.Error(kinds, api.OK, api.MaxThreads)
	}
}

// TestNothing: P19.1: no events and no order: right, and the pairs are those of
// the beginning.
func TestNothing(t *testing.T) {
	for _, begin := range [][]api.Pair{nil, {}, pairs(1, 5), pairs(low, high, 0, 0, high, low)} {
		for _, h := range [][]api.Event{nil, {}} {
			for _, l := range [][]int{nil, {}} {
				check(t, begin, h, l, begin, true)
			}
			for _, at := range []int{0, 1, -1, low, high} {
				checkNot(t, begin, h, at)
			}
		}
	}
}

// TestByHand: P19.1: orders that are right, and what the map has then.
func TestByHand(t *testing.T) {
	at := pairs(1, 5)
	for _, x := range []struct {
		begin []api.Pair
		calls []api.Call
		l     []int
		want  []api.Pair
	}{
		{nil, []api.Call{call(0, 0, 1, put(1, 7), none)}, []int{0}, pairs(1, 7)},
		{at, []api.Call{call(5, 0, 1, put(1, 7), was(1, 5))}, []int{0}, pairs(1, 7)},
		{at, []api.Call{call(0, 0, 1, cut(1), was(1, 5))}, []int{0}, nil},
		{at, []api.Call{call(0, 0, 1, get(1), was(1, 5))}, []int{0}, at},
		{at, []api.Call{call(0, 0, 1, put(0, 9), none), call(1, 2, 3, within(low, high), all(0, 9, 1, 5))}, []int{0, 1}, pairs(0, 9, 1, 5)},
		{at, []api.Call{call(0, 0, 2, put(1, 7), was(1, 5)), call(1, 1, 3, get(1), was(1, 7))}, []int{0, 1}, pairs(1, 7)},
		{at, []api.Call{call(0, 0, 2, put(1, 7), was(1, 5)), call(1, 1, 3, get(1), was(1, 5))}, []int{1, 0}, pairs(1, 7)},
		{at, []api.Call{call(0, 0, 3, put(1, 7), was(1, 5)), call(1, 1, 2, get(1), was(1, 5))}, []int{1, 0}, pairs(1, 7)},
		{at, []api.Call{open(0, 0, put(1, 7)), call(1, 1, 2, get(1), was(1, 7))}, []int{0, 1}, pairs(1, 7)},
		{at, []api.Call{open(0, 0, put(1, 7)), call(1, 1, 2, get(1), was(1, 5))}, []int{1, 0}, pairs(1, 7)},
		{at, []api.Call{open(0, 0, put(1, 7)), call(1, 1, 2, get(1), was(1, 5))}, []int{1}, at},
		{at, []api.Call{call(0, 0, 1, put(1, 7), full), call(1, 2, 3, get(1), was(1, 5))}, []int{1}, at},
		{nil, []api.Call{
			call(0, 0, 3, put(1, 1), was(1, 3)), call(1, 1, 4, put(1, 2), none), call(2, 2, 5, put(1, 3), was(1, 2)), call(0, 6, 7, get(1), was(1, 1)),
		}, []int{1, 2, 0, 3}, pairs(1, 1)},
		{at, []api.Call{
			call(0, 0, 6, count(low, high), many(2)), call(1, 1, 2, add(2, 6), none), call(1, 3, 5, add(3, 7), none), call(2, 4, 7, most(), was(3, 7)),
		}, []int{1, 0, 2, 3}, pairs(1, 5, 2, 6, 3, 7)},
	} {
		h := of(x.calls...)
		check(t, x.begin, h, x.l, x.want, true)
		if want, ok := endsOf(x.begin, h, x.l); !ok || !slices.Equal(want, x.want) {
			t.Error("the sentences say otherwise", x, want, ok)
		}
	}
}

// TestBeginNot: P19.1: of a beginning that may not be no order is right.
func TestBeginNot(t *testing.T) {
	h := of(call(0, 0, 1, get(77), none), open(1, 2, put(4, 4)))
	for _, begin := range [][]api.Pair{
		pairs(1, 5, 1, 5), pairs(1, 5, 1, 6), pairs(2, 5, 1, 6), pairs(0, 0, 0, 0), pairs(high, 1, low, 2), pairs(low, 1, low, 1), pairs(high, 1, high, 1),
		pairs(1, 1, 2, 2, 3, 3, 3, 4), pairs(1, 1, 1, 1, 2, 2, 3, 3), pairs(1, 1, 3, 2, 2, 3, 4, 4), pairs(1, 1, 2, 2, 0, 3), pairs(-1, 1, -2, 2), pairs(0, 1, -1<<32, 2),
	} {
		checkNot(t, begin, nil)
		for _, l := range [][]int{nil, {0}, {0, 1}, {1, 0}} {
			checkNot(t, begin, h, l...)
		}
	}
	check(t, pairs(1, 5, 2, 5), h, []int{0, 1}, pairs(1, 5, 2, 5, 4, 4), true)
}

// TestHistoryNot: P19.1: of a history that may not be no order is right.
func TestHistoryNot(t *testing.T) {
	begins, returns := api.Event{Op: get(1)}, api.Event{Ret: true, Op: get(1)}
	other, told, wrong := begins, begins, begins
	other.Thread, told.Ans, wrong.Op.Kind = 1, many(1), 9
	wrongReturns, otherReturns, farReturns := returns, returns, returns
	wrongReturns.Op.Kind, otherReturns.Thread, farReturns.Op.Hi = 9, 1, 6
	for _, h := range [][]api.Event{
		{returns}, {returns, begins}, {begins, begins}, {begins, begins, returns}, {begins, returns, returns}, {begins, other, returns, returns},
		{begins, otherReturns}, {begins, farReturns}, {told}, {told, returns}, {wrong}, {wrong, wrongReturns}, {begins, returns, wrong},
		{{Thread: maxThreads, Op: get(1)}}, {{Thread: -1, Op: get(1)}}, {begins, returns, {Thread: high, Op: get(1)}}, {{}},
	} {
		orders(upTo(2), 3, func(l []int) { checkNot(t, nil, h, l...) })
	}
	check(t, nil, []api.Event{begins, other, returns, otherReturns}, []int{0, 1}, nil, true)
}

// three is a history whose calls are all at work at once: two have returned, one
// has not. Each order is right that names the first and the second.
func three() []api.Event {
	return of(call(0, 0, 3, get(1), was(1, 5)), call(1, 1, 4, put(2, 7), none), open(2, 2, put(3, 8)))
}

// TestPlaces: P19.1: an order names places of calls alone, wherever in it.
func TestPlaces(t *testing.T) {
	begin, end := pairs(1, 5), pairs(1, 5, 2, 7, 3, 8)
	turns(upTo(3), func(l []int) {
		check(t, begin, three(), l, end, true)
		for place := 0; place <= len(l); place++ {
			for _, at := range []int{
				-1, -2, -3, -1 << 8, -1 << 32, low, low + 1, low + 2, 3, 4, 5, 6, 1 << 8, 1 << 16, 1 << 32, 1<<32 + 1, high - 1, high,
			} {
				checkNot(t, begin, three(), slices.Insert(slices.Clone(l), place, at)...)
				if place < len(l) {
					bent := slices.Clone(l)
					bent[place] = at
					checkNot(t, begin, three(), bent...)
				}
			}
		}
	})
}

// TestTwice: P19.1: an order names each call once, wherever it stands again.
func TestTwice(t *testing.T) {
	begin := pairs(1, 5)
	turns(upTo(3), func(l []int) {
		for _, at := range l {
			for place := 0; place <= len(l); place++ {
				checkNot(t, begin, three(), slices.Insert(slices.Clone(l), place, at)...)
			}
		}
	})
	for _, l := range [][]int{{0, 0, 1}, {0, 1, 0}, {1, 0, 0}, {0, 1, 1}, {0, 1, 2, 2}, {2, 0, 1, 2}, {0, 0}, {0, 1, 0, 1}} {
		checkNot(t, begin, three(), l...)
	}
	h := of(call(0, 0, 1, get(1), was(1, 5)))
	checkNot(t, begin, h, 0, 0)
	checkNot(t, begin, h, make([]int, 1000)...)
}

// TestLacks: P19.1: what has returned and was not refused is named; what has not
// returned need not be.
func TestLacks(t *testing.T) {
	begin := pairs(1, 5)
	for _, l := range [][]int{nil, {0}, {1}, {2}, {0, 2}, {1, 2}, {2, 0}, {2, 1}} {
		checkNot(t, begin, three(), l...)
	}
	check(t, begin, three(), []int{0, 1}, pairs(1, 5, 2, 7), true)
	check(t, begin, three(), []int{1, 0}, pairs(1, 5, 2, 7), true)
	h := of(open(0, 0, put(1, 1)), open(1, 1, put(2, 2)), open(2, 2, cut(1)))
	check(t, begin, h, nil, begin, true)
	check(t, begin, h, []int{2}, nil, true)
	check(t, begin, h, []int{1}, pairs(1, 5, 2, 2), true)
	check(t, begin, h, []int{2, 0}, pairs(1, 1), true)
	check(t, begin, h, []int{0, 2}, nil, true)
	check(t, begin, h, []int{2, 1, 0}, pairs(1, 1, 2, 2), true)
	checkNot(t, begin, h, 3)
	checkNot(t, begin, h, 0, 0)
}

// TestRefused: P19.1: what was refused is not named, and has done nothing.
func TestRefused(t *testing.T) {
	begin := pairs(1, 5)
	for _, ans := range refusals {
		h := of(call(0, 0, 1, put(1, 7), ans))
		check(t, begin, h, nil, begin, true)
		checkNot(t, begin, h, 0)
		h = of(call(0, 0, 3, put(1, 7), ans), call(1, 1, 2, get(1), was(1, 5)), call(1, 4, 5, get(1), was(1, 5)))
		check(t, begin, h, []int{1, 2}, begin, true)
		for _, l := range [][]int{nil, {0}, {1}, {0, 1}, {0, 1, 2}, {1, 0, 2}, {1, 2, 0}, {2, 1}, {0, 2}} {
			checkNot(t, begin, h, l...)
		}
		h = of(call(0, 0, 3, put(1, 7), ans), call(1, 1, 2, get(1), was(1, 7)))
		orders(upTo(2), 2, func(l []int) { checkNot(t, begin, h, l...) })
		h = of(call(0, 0, 1, get(1), ans), call(0, 2, 3, cut(1), ans), call(0, 4, 5, within(0, 9), ans))
		check(t, begin, h, nil, begin, true)
		orders(upTo(3), 3, func(l []int) {
			if len(l) > 0 {
				checkNot(t, begin, h, l...)
			}
		})
	}
}

// TestBefore: P19.1: nothing is named ahead of what had returned ahead of its
// beginning; what was at work at once may be named either way round.
func TestBefore(t *testing.T) {
	for _, x := range []struct {
		at   [][2]int // where each call began and returned
		want [][]int  // all orders that are right
	}{
		{[][2]int{{0, 1}, {2, 3}}, [][]int{{0, 1}}},
		{[][2]int{{0, 2}, {1, 3}}, [][]int{{0, 1}, {1, 0}}},
		{[][2]int{{0, 3}, {1, 2}}, [][]int{{0, 1}, {1, 0}}},
		{[][2]int{{0, 1}, {2, -1}}, [][]int{{0, 1}, {0}}},
		{[][2]int{{0, -1}, {1, 2}}, [][]int{{0, 1}, {1, 0}, {1}}},
		{[][2]int{{0, 2}, {1, -1}}, [][]int{{0, 1}, {1, 0}, {0}}},
		{[][2]int{{0, -1}, {1, -1}}, [][]int{{0, 1}, {1, 0}, {0}, {1}, nil}},
		{[][2]int{{0, 1}, {2, 3}, {4, 5}}, [][]int{{0, 1, 2}}},
		{[][2]int{{0, 2}, {1, 4}, {3, 5}}, [][]int{{0, 1, 2}, {0, 2, 1}, {1, 0, 2}}},
		{[][2]int{{0, 5}, {1, 2}, {3, 4}}, [][]int{{0, 1, 2}, {1, 0, 2}, {1, 2, 0}}},
		{[][2]int{{0, 1}, {2, 5}, {3, 4}}, [][]int{{0, 1, 2}, {0, 2, 1}}},
		{[][2]int{{0, 3}, {1, 2}, {4, 5}}, [][]int{{0, 1, 2}, {1, 0, 2}}},
		{[][2]int{{0, 3}, {1, 5}, {2, 4}}, [][]int{{0, 1, 2}, {0, 2, 1}, {1, 0, 2}, {1, 2, 0}, {2, 0, 1}, {2, 1, 0}}},
		{[][2]int{{0, 1}, {2, -1}, {3, 4}}, [][]int{{0, 1, 2}, {0, 2, 1}, {0, 2}}},
		{[][2]int{{0, 2}, {1, -1}, {3, -1}}, [][]int{{0, 1, 2}, {0, 2, 1}, {1, 0, 2}, {0, 1}, {1, 0}, {0, 2}, {0}}},
	} {
		var calls []api.Call
		for i, at := range x.at {
			calls = append(calls, call(i, at[0], at[1], get(i), none))
		}
		h := of(calls...)
		orders(upTo(len(calls)), len(calls), func(l []int) {
			right := slices.ContainsFunc(x.want, func(w []int) bool { return slices.Equal(w, l) })
			check(t, nil, h, l, nil, right)
		})
	}
}

// TestBeforeFarOff: P19.1: of calls one behind the other but for one that is at
// work all the time: that one may stand anywhere, the others only as they came.
func TestBeforeFarOff(t *testing.T) {
	const n = 12
	calls := []api.Call{call(5, 0, 2*n+1, put(0, 9), none)}
	for i := range n {
		calls = append(calls, call(i%5, 2*i+1, 2*i+2, get(i+1), none))
	}
	h := of(calls...)
	for place := range n + 1 {
		l := slices.Insert(upTo(n + 1)[1:], place, 0)
		check(t, nil, h, l, pairs(0, 9), true)
		for i := range l {
			for j := range i {
				bent := slices.Clone(l)
				bent[i], bent[j] = l[j], l[i]
				right := i == j+1 && (l[i] == 0 || l[j] == 0)
				check(t, nil, h, bent, pairs(0, 9), right)
			}
		}
	}
}

// TestAtOnce: P19.1: of calls at work at once what they were told says which
// orders are right.
func TestAtOnce(t *testing.T) {
	at := pairs(1, 5)
	for _, x := range []struct {
		a, b         api.Call
		ab, ba       bool
		abHas, baHas []api.Pair
	}{
		{call(0, 0, 2, put(1, 7), was(1, 5)), call(1, 1, 3, get(1), was(1, 7)), true, false, pairs(1, 7), nil},
		{call(0, 0, 2, put(1, 7), was(1, 5)), call(1, 1, 3, get(1), was(1, 5)), false, true, nil, pairs(1, 7)},
		{call(0, 0, 2, put(1, 7), was(1, 5)), call(1, 1, 3, get(1), none), false, false, nil, nil},
		{call(0, 0, 2, put(1, 7), was(1, 5)), call(1, 1, 3, get(2), none), true, true, pairs(1, 7), pairs(1, 7)},
		{call(0, 0, 2, put(1, 7), was(1, 5)), call(1, 1, 3, put(1, 8), was(1, 7)), true, false, pairs(1, 8), nil},
		{call(0, 0, 2, put(1, 7), was(1, 8)), call(1, 1, 3, put(1, 8), was(1, 5)), false, true, nil, pairs(1, 7)},
		{call(0, 0, 2, put(1, 7), was(1, 5)), call(1, 1, 3, put(1, 8), was(1, 5)), false, false, nil, nil},
		{call(0, 0, 3, put(1, 7), was(1, 5)), call(1, 1, 2, put(2, 8), none), true, true, pairs(1, 7, 2, 8), pairs(1, 7, 2, 8)},
		{call(0, 0, 3, cut(1), was(1, 5)), call(1, 1, 2, add(1, 8), was(1, 5)), false, true, nil, nil},
		{call(0, 0, 3, cut(1), was(1, 5)), call(1, 1, 2, add(1, 8), none), true, false, pairs(1, 8), nil},
		{call(0, 0, 2, add(0, 1), none), call(1, 1, 3, add(0, 2), was(0, 1)), true, false, pairs(0, 1, 1, 5), nil},
		{call(0, 0, 2, add(0, 1), was(0, 2)), call(1, 1, 3, add(0, 2), none), false, true, nil, pairs(0, 2, 1, 5)},
		{call(0, 0, 2, cut(1), was(1, 5)), call(1, 1, 3, least(), none), true, false, nil, nil},
		{call(0, 0, 2, cut(1), was(1, 5)), call(1, 1, 3, count(0, 3), many(1)), false, true, nil, nil},
	} {
		h := of(x.a, x.b)
		check(t, at, h, []int{0, 1}, x.abHas, x.ab)
		check(t, at, h, []int{1, 0}, x.baHas, x.ba)
	}
}

// told is one of each kind of operation, and what it is told of 1 5, 3 6, 4 7.
func told() []api.Call {
	var l []api.Call
	for i, r := range []struct {
		op  api.Op
		ans api.Ans
	}{
		{put(1, 9), was(1, 5)}, {put(2, 9), none}, {add(3, 9), was(3, 6)}, {add(2, 9), none}, {cut(4), was(4, 7)}, {cut(5), none},
		{get(3), was(3, 6)}, {get(0), none}, {within(1, 3), all(1, 5, 3, 6)}, {within(4, 4), all(4, 7)}, {within(5, 9), all()}, {within(4, 1), all()},
		{count(2, 9), many(2)}, {count(9, 2), many(0)}, {least(), was(1, 5)}, {most(), was(4, 7)},
	} {
		l = append(l, call(i%maxThreads, 0, 1, r.op, r.ans))
	}
	return l
}

// bent is the answer, in each of its fields another one.
func bent(a api.Ans) []api.Ans {
	var l []api.Ans
	put := func(change func(b *api.Ans)) {
		b := a
		b.Pairs = slices.Clone(a.Pairs)
		change(&b)
		l = append(l, b)
	}
	put(func(b *api.Ans) { b.Ok = !b.Ok })
	for _, by := range []int{1, -1, 1 << 32, low} {
		put(func(b *api.Ans) { b.Pair.Key += by })
		put(func(b *api.Ans) { b.Pair.Val += by })
		put(func(b *api.Ans) { b.N += by })
		for i := range a.Pairs {
			put(func(b *api.Ans) { b.Pairs[i].Key += by })
			put(func(b *api.Ans) { b.Pairs[i].Val += by })
		}
	}
	put(func(b *api.Ans) { b.Pair.Key, b.Pair.Val = b.Pair.Val, b.Pair.Key+1 })
	put(func(b *api.Ans) { b.Pairs = append(b.Pairs, api.Pair{}) })
	put(func(b *api.Ans) { b.Pairs = append(b.Pairs, pairs(9, 9)...) })
	if len(a.Pairs) > 0 {
		put(func(b *api.Ans) { b.Pairs = nil })
		put(func(b *api.Ans) { b.Pairs = b.Pairs[1:] })
		put(func(b *api.Ans) { b.Pairs = b.Pairs[:len(b.Pairs)-1] })
	}
	if len(a.Pairs) > 1 {
		put(func(b *api.Ans) { slices.Reverse(b.Pairs) })
	}
	return l
}

// TestEachField: P19.1: what a call was told is what the model tells, in all.
func TestEachField(t *testing.T) {
	begin := pairs(1, 5, 3, 6, 4, 7)
	for _, c := range told() {
		has, ok := endsOf(begin, of(c), []int{0})
		if !ok {
			t.Fatal("not right by the sentences", c)
		}
		check(t, begin, of(c), []int{0}, has, true)
		behind := call(c.Thread, 2, 3, get(77), none)
		check(t, begin, of(c, behind), []int{0, 1}, has, true)
		for _, ans := range bent(c.Ans) {
			d := c
			d.Ans = ans
			checkNot(t, begin, of(d), 0)
			checkNot(t, begin, of(d))
			checkNot(t, begin, of(d, behind), 0, 1)
			checkNot(t, begin, of(d, behind), 1)
		}
		for _, ans := range refusals {
			d := c
			d.Ans.Err = ans.Err
			checkNot(t, begin, of(d), 0)
			check(t, begin, of(d), nil, begin, true)
			checkNot(t, begin, of(d, behind), 0, 1)
			check(t, begin, of(d, behind), []int{1}, begin, true)
		}
	}
}

// TestNoPairsOfAnyKind: R2: nil and empty lists are one, in what a call was told.
func TestNoPairsOfAnyKind(t *testing.T) {
	for _, l := range [][]api.Pair{nil, {}, pairs(1, 5)[:0]} {
		h := of(call(0, 0, 1, get(2), api.Ans{Pairs: l}), call(0, 2, 3, within(2, 9), api.Ans{Pairs: l}))
		h[0].Ans.Pairs = l
		check(t, pairs(1, 5), h, []int{0, 1}, pairs(1, 5), true)
	}
}

// TestOpen: P19.1: a call that has not returned may be named, whatever it would
// be told; it does what it does there.
func TestOpen(t *testing.T) {
	begin := pairs(1, 5, 3, 6, 4, 7)
	for _, c := range told() {
		o := open(c.Thread, 0, c.Op)
		has, _ := endsOf(begin, of(c), []int{0})
		same := slices.Equal(begin, has)
		check(t, begin, of(o), nil, begin, true)
		check(t, begin, of(o), []int{0}, has, true)
		look := call((c.Thread+1)%maxThreads, 1, 2, within(low, high), api.Ans{N: len(begin), Pairs: begin})
		check(t, begin, of(o, look), []int{1}, begin, true)
		check(t, begin, of(o, look), []int{1, 0}, has, true)
		check(t, begin, of(o, look), []int{0, 1}, has, same)
		look.Ans = api.Ans{N: len(has), Pairs: has}
		check(t, begin, of(o, look), []int{0, 1}, has, true)
		check(t, begin, of(o, look), []int{1}, begin, same)
		check(t, begin, of(o, look), []int{1, 0}, has, same)
		checkNot(t, begin, of(o, look), 0)
		checkNot(t, begin, of(o, look), 0, 1, 0)
	}
}

// soloOf is the history of these operations, one after the other, each told what
// one map of begin tells.
func soloOf(begin []api.Pair, ops []api.Op) []api.Event {
	k, _ := keyedOf(begin)
	var calls []api.Call
	for i, op := range ops {
		calls = append(calls, call(op.Key&3, 2*i, 2*i+1, op, k.do(op)))
	}
	return of(calls...)
}

// rolledOp is some operation on few keys.
func rolledOp(roll func(int) int) api.Op {
	return api.Op{Kind: oPut + roll(oMax), Key: roll(4), Hi: roll(5), Val: roll(3)}
}

// TestSolo: P19.2: of calls one after the other none of which was refused one
// order is right, that in which they began, if they were told what one map tells,
// and none, if they were not.
func TestSolo(t *testing.T) {
	roll := rolls()
	for i := range 150 {
		begin := []api.Pair{{Key: 0, Val: 1}, {Key: 2, Val: roll(3)}}[roll(2):]
		var ops []api.Op
		for range i % 6 {
			ops = append(ops, rolledOp(roll))
		}
		h := soloOf(begin, ops)
		k, _ := keyedOf(begin)
		for _, op := range ops {
			k.do(op)
		}
		turns(upTo(len(ops)), func(l []int) {
			right := slices.IsSorted(l)
			check(t, begin, h, l, k.of(low, high), right)
		})
		for n := range ops {
			checkNot(t, begin, h, upTo(n)...)
			for _, ans := range bent(h[2*n+1].Ans) {
				other := slices.Clone(h)
				other[2*n+1].Ans = ans
				checkNot(t, begin, other, upTo(len(ops))...)
			}
		}
	}
}

// TestSoloInNoOrder: P19.2: of calls one after the other that were told what one
// map tells in another order no order is right, and nothing but an order of all.
func TestSoloInNoOrder(t *testing.T) {
	at := pairs(1, 5)
	for _, h := range [][]api.Event{
		of(call(0, 0, 1, put(1, 7), was(1, 5)), call(1, 2, 3, get(1), was(1, 5))),
		of(call(0, 0, 1, get(1), was(1, 7)), call(1, 2, 3, put(1, 7), was(1, 5))),
		of(call(0, 0, 1, put(1, 7), was(1, 8)), call(0, 2, 3, put(1, 8), was(1, 5))),
		of(call(0, 0, 1, cut(1), none), call(0, 2, 3, cut(1), was(1, 5)), call(0, 4, 5, get(1), none)),
	} {
		orders(upTo(len(h)/2), len(h)/2, func(l []int) { checkNot(t, at, h, l...) })
	}
	h := soloOf(at, []api.Op{put(1, 7), put(2, 8), get(1)})
	orders(upTo(4), 4, func(l []int) {
		right := slices.Equal(l, []int{0, 1, 2})
		check(t, at, h, l, pairs(1, 7, 2, 8), right)
	})
}

// grown calls f with all histories of so many events at most, of two threads, that
// put 1 7 or look at 1 and are told each of a few things.
func grown(n int, f func(h []api.Event)) {
	ops := []api.Op{put(1, 7), get(1)}
	answers := []api.Ans{none, was(1, 5), was(1, 7), full}
	var grow func(h []api.Event, waits [2]int)
	grow = func(h []api.Event, waits [2]int) {
		f(h)
		if len(h) == n {
			return
		}
		for thread, op := range waits {
			next := waits
			if op > 0 {
				next[thread] = 0
				for _, ans := range answers {
					grow(append(slices.Clone(h), api.Event{Thread: thread, Ret: true, Op: ops[op-1], Ans: ans}), next)
				}
				continue
			}
			for i := range ops {
				next[thread] = i + 1
				grow(append(slices.Clone(h), api.Event{Thread: thread, Op: ops[i]}), next)
			}
		}
	}
	grow(nil, [2]int{})
}

// TestEvery: P19.1: all histories of few events, with all lists of few places.
func TestEvery(t *testing.T) {
	begin := pairs(1, 5)
	n := 0
	grown(5, func(h []api.Event) {
		orders(upTo(4), 3, func(l []int) {
			want, ok := endsOf(begin, h, l)
			if ok {
				n++
			}
			if got, yes := Ends(begin, h, l); yes != ok || !slices.Equal(got, want) || Right(begin, h, l) != ok {
				t.Errorf("%v: Ends tells %v %v, not %v %v", handed{begin, h, l}, got, yes, want, ok)
			}
		})
	})
	if n < 1000 {
		t.Error("only so many orders are right:", n)
	}
}

// rolled is a history as so many threads at work on one map may make it, and at
// each place of it (and at its end) the numbers of the calls that took effect
// till then, in order.
func rolled(roll func(int) int, begin []api.Pair, threads, n int) ([]api.Event, [][]int) {
	type work struct {
		number int
		op     api.Op
		told   *api.Ans
	}
	k, _ := keyedOf(begin)
	var h []api.Event
	order, calls := []int{}, 0
	took := [][]int{nil}
	at := make([]*work, threads)
	for len(h) < n {
		thread := roll(threads)
		w := at[thread]
		switch {
		case w == nil:
			w = &work{calls, rolledOp(roll), nil}
			at[thread] = w
			calls++
			h = append(h, api.Event{Thread: thread, Op: w.op})
		case w.told == nil && roll(8) > 0:
			ans := k.do(w.op)
			w.told = &ans
			order = append(order, w.number)
			continue
		case w.told == nil:
			w.told = &refusals[roll(len(refusals))]
			fallthrough
		default:
			at[thread] = nil
			h = append(h, api.Event{Thread: thread, Ret: true, Op: w.op, Ans: *w.told})
		}
		took = append(took, slices.Clone(order))
	}
	return h, took
}

// TestRolled: P19.1: histories of threads at work on one map: the order in which
// calls took effect is right; of that order, and of that history, with something
// turned about, gone, or twice, the sentences tell.
func TestRolled(t *testing.T) {
	roll := rolls()
	begin := pairs(0, 1, 3, 2)
	for range 120 {
		h, took := rolled(roll, begin, 1+roll(maxThreads), roll(30))
		l := took[len(h)]
		if !checkOf(t, begin, h, l) {
			t.Errorf("%v: not right", handed{begin, h, l})
		}
		for i := range l {
			for j := range i {
				turned := slices.Clone(l)
				turned[i], turned[j] = l[j], l[i]
				checkOf(t, begin, h, turned)
			}
			checkOf(t, begin, h, slices.Delete(slices.Clone(l), i, i+1))
			checkOf(t, begin, h, slices.Insert(slices.Clone(l), i, roll(len(h))))
		}
		for place := range h {
			gone := slices.Delete(slices.Clone(h), place, place+1)
			checkOf(t, begin, gone, l)
			other := slices.Clone(h)
			other[place].Thread = roll(maxThreads + 1)
			checkOf(t, begin, other, l)
			other[place] = h[place]
			other[place].Ans = bent(h[place].Ans)[roll(6)]
			checkOf(t, begin, other, l)
		}
	}
}

// TestOnTheWay: P19.1: at each place of a history the order so far is right of
// what has come so far.
func TestOnTheWay(t *testing.T) {
	roll := rolls()
	begin := pairs(1, 2, 2, 1)
	for range 100 {
		h, took := rolled(roll, begin, 1+roll(maxThreads), roll(60))
		for n, l := range took {
			if !checkOf(t, begin, h[:n], l) {
				t.Errorf("%v: not right", handed{begin, h[:n], l})
			}
		}
	}
}

// TestLong: P19.1, P19.2: no bound is named of how many calls or pairs there are,
// and the order of many is told soon.
func TestLong(t *testing.T) {
	const n = 60000
	var ops []api.Op
	for i := range n {
		ops = append(ops, []api.Op{put(i%5, i), get(i % 3), cut(i % 7)}[i%3])
	}
	h, l := soloOf(nil, ops), upTo(n)
	k := keyed{}
	for _, op := range ops[:n-1] {
		k.do(op)
	}
	check(t, nil, h[:2*n-1], l[:n-1], k.of(low, high), true)
	checkNot(t, nil, h, l[:n-1]...)
	k.do(ops[n-1])
	check(t, nil, h, l, k.of(low, high), true)
	check(t, nil, h[:2*n-1], l, k.of(low, high), true)
	checkNot(t, nil, h, l[1:]...)
	checkNot(t, nil, h, append(upTo(n), n-1)...)
	l[n-2], l[n-1] = n-1, n-2
	checkNot(t, nil, h, l...)
	slices.Reverse(l)
	checkNot(t, nil, h, l...)

	var begin []api.Pair
	for i := range n {
		begin = append(begin, api.Pair{Key: 2 * i, Val: -i})
	}
	h = of(call(0, 0, 1, count(low, high), many(n)), call(0, 2, 3, put(1, 1), none), call(3, 4, 5, most(), was(2*n-2, 1-n)))
	check(t, begin, h, upTo(3), slices.Insert(slices.Clone(begin), 1, api.Pair{Key: 1, Val: 1}), true)
	checkNot(t, begin, h, 0, 2, 1)
}

// TestListsOfOneArray: R2: what is handed in may share memory; what is told does
// not share it.
func TestListsOfOneArray(t *testing.T) {
	l := pairs(1, 5, 2, 6, 3, 7)
	h := of(call(0, 0, 2, within(0, 9), all()), call(1, 1, 3, within(2, 9), all()))
	h[2].Ans = api.Ans{N: 3, Pairs: l}
	h[3].Ans = api.Ans{N: 2, Pairs: l[1:]}
	for _, order := range [][]int{{0, 1}, {1, 0}} {
		got, ok := Ends(l, h, order)
		if !ok || !slices.Equal(got, l) {
			t.Error(got, ok)
		}
		spoil(got)
		if !slices.Equal(l, pairs(1, 5, 2, 6, 3, 7)) {
			t.Fatal("what was told shares memory with what was handed in", l)
		}
	}
}

// TestNotKept: R2, R6: what was told stays when what was handed in changes, and
// nothing is kept of one call for the next.
func TestNotKept(t *testing.T) {
	begin, l := pairs(1, 5), []int{1, 0}
	h := of(call(0, 0, 2, put(2, 7), none), call(1, 1, 3, within(0, 9), all(1, 5)))
	got, ok := Ends(begin, h, l)
	spoil(begin)
	spoil(h[3].Ans.Pairs)
	clear(h)
	clear(l)
	if !ok || !slices.Equal(got, pairs(1, 5, 2, 7)) {
		t.Error(got, ok)
	}
	checkNot(t, begin, h, l...)
	check(t, pairs(1, 5), of(open(0, 0, get(1))), nil, pairs(1, 5), true)
	check(t, nil, nil, nil, nil, true)
}

// TestWild: R3: whatever is handed in, the sentences tell.
func TestWild(t *testing.T) {
	roll := rolls()
	some := []int{low, -1, 0, 1, 2, 3, maxThreads, 1 << 32, high}
	one := func() int { return some[roll(len(some))] }
	for range 20000 {
		var x handed
		for range roll(3) {
			x.begin = append(x.begin, api.Pair{Key: one(), Val: one()})
		}
		for range roll(4) {
			op := api.Op{Kind: roll(10), Key: one(), Hi: one(), Val: one()}
			if roll(9) == 0 {
				op.Kind = one()
			}
			e := api.Event{Thread: roll(3), Ret: roll(2) == 1, Op: op}
			if last := len(x.h) - 1; last >= 0 && roll(3) > 0 {
				e = x.h[last]
				e.Ret, e.Ans = true, api.Ans{Err: api.Errno(roll(9) / 8), N: roll(5) / 4, Ok: roll(5) == 0}
			}
			if roll(9) == 0 {
				e.Thread = one()
			}
			x.h = append(x.h, e)
		}
		for range roll(4) {
			x.l = append(x.l, one())
		}
		checkOf(t, x.begin, x.h, x.l)
	}
}

// TestExample: the chapter's example.
func TestExample(t *testing.T) {
	if !Right(nil, nil, nil) {
		t.Error("no events, no order: not right")
	}
}
