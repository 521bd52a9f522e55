package lin

import (
	"fmt"
	"math"
	"slices"
	"testing"
	"time"

	"osier/api"
	"osier/leaf"
	"osier/model"
	"osier/order"
	"osier/past"
)

// Kinds and bounds, by the document.
const (
	oPut   = 1
	oAdd   = 2
	oCut   = 3
	oGet   = 4
	oRange = 5
	oCount = 6
	oMin   = 7
	oMax   = 8

	maxThreads = 6
	maxCalls   = 16
)

// The ends of int.
const (
	low  = math.MinInt
	high = math.MaxInt
)

// pairs is pairs by hand: key, value, key, value ..
func pairs(n ...int) []api.Pair {
	var l []api.Pair
	for i := 0; i < len(n); i += 2 {
		l = append(l, api.Pair{Key: n[i], Val: n[i+1]})
	}
	return l
}

// Operations, by hand. Those that need no value have one all the same, which
// would tell on who heeds it.
func put(key, val int) api.Op  { return api.Op{Kind: oPut, Key: key, Hi: -key, Val: val} }
func add(key, val int) api.Op  { return api.Op{Kind: oAdd, Key: key, Hi: -key, Val: val} }
func cut(key int) api.Op       { return api.Op{Kind: oCut, Key: key, Hi: 666, Val: 666} }
func get(key int) api.Op       { return api.Op{Kind: oGet, Key: key, Hi: 666, Val: 666} }
func within(lo, hi int) api.Op { return api.Op{Kind: oRange, Key: lo, Hi: hi, Val: 666} }
func count(lo, hi int) api.Op  { return api.Op{Kind: oCount, Key: lo, Hi: hi, Val: 666} }
func least() api.Op            { return api.Op{Kind: oMin, Key: 666, Hi: 555, Val: 666} }
func most() api.Op             { return api.Op{Kind: oMax, Key: 555, Hi: 666, Val: 666} }

// Answers, by hand.
func was(key, val int) api.Ans { return api.Ans{Ok: true, Pair: api.Pair{Key: key, Val: val}} }
func all(n ...int) api.Ans     { return api.Ans{N: len(n) / 2, Pairs: pairs(n...)} }
func many(n int) api.Ans       { return api.Ans{N: n} }

var none = api.Ans{}

// full is what a call tells that was refused.
var full = api.Ans{Err: 2}

// refusals is every other way to tell that a call was refused, whatever is told
// beside it.
var refusals = []api.Ans{
	full, {Err: 1}, {Err: 3}, {Err: 4}, {Err: 5}, {Err: -1}, {Err: 77}, {Err: 1 << 8}, {Err: 1 << 32}, {Err: low}, {Err: high},
	{Err: 2, Ok: true, Pair: api.Pair{Key: 1, Val: 5}}, {Err: 1, N: 1, Pairs: pairs(1, 5)},
}

// call is a call by hand: its thread, the places where it began and returned
// (-1: it has not), what it asks for and is told.
func call(thread, from, to int, op api.Op, ans api.Ans) api.Call {
	return api.Call{Thread: thread, From: from, To: to, Op: op, Ans: ans}
}

// open is a call that has not returned.
func open(thread, from int, op api.Op) api.Call { return call(thread, from, -1, op, none) }

// of is the history of these calls.
func of(l ...api.Call) []api.Event {
	n := len(l)
	for _, c := range l {
		if c.To >= 0 {
			n++
		}
	}
	h := make([]api.Event, n)
	for _, c := range l {
		h[c.From] = api.Event{Thread: c.Thread, Op: c.Op}
		if c.To >= 0 {
			h[c.To] = api.Event{Thread: c.Thread, Ret: true, Op: c.Op, Ans: c.Ans}
		}
	}
	return h
}

// row is the history of these calls, one after the other.
func row(l ...api.Call) []api.Event {
	for i := range l {
		l[i].From, l[i].To = 2*i, 2*i+1
	}
	return of(l...)
}

// said is an operation and its answer, as a call without a place.
func said(thread int, op api.Op, ans api.Ans) api.Call { return call(thread, 0, 1, op, ans) }

// handed is what is handed in.
type handed struct {
	begin []api.Pair
	h     []api.Event
}

// guarded is the same in memory of its own, with more behind the end of each of
// its lists.
func (x handed) guarded() handed {
	begin := append(slices.Clone(x.begin), pairs(666, 667, low, 668)...)
	h := append(slices.Clone(x.h), api.Event{Ret: true, Op: get(1)}, api.Event{Thread: maxThreads})
	for i := range h {
		told := h[i].Ans.Pairs
		h[i].Ans.Pairs = append(slices.Clone(told), pairs(1, 5)...)[:len(told)]
	}
	return handed{begin[:len(x.begin)], h[:len(x.h)]}
}

// whole is a copy of it, with what lies behind the ends of its lists.
func (x handed) whole() handed {
	h := slices.Clone(x.h[:cap(x.h)])
	for i := range h {
		told := h[i].Ans.Pairs
		h[i].Ans.Pairs = slices.Clone(told[:cap(told)])
	}
	return handed{slices.Clone(x.begin[:cap(x.begin)]), h}
}

func (x handed) same(y handed) bool {
	return slices.Equal(x.begin, y.begin) && slices.EqualFunc(x.h, y.h, func(e, f api.Event) bool {
		return e.Thread == f.Thread && e.Ret == f.Ret && e.Op == f.Op && leaf.SameAns(e.Ans, f.Ans)
	})
}

// String is the text of what is handed in, unless it is long.
func (x handed) String() string {
	if len(x.begin)+len(x.h) > 16 {
		return fmt.Sprintf("%d pairs, %d events", len(x.begin), len(x.h))
	}
	return fmt.Sprintf("%v, %v", x.begin, x.h)
}

// find checks Find and Any against what must be told: that error, and whether
// there is an order, which must be right then. Nothing that is handed in may
// change, what is told is told each time, and nothing of it may share memory.
func find(t *testing.T, begin []api.Pair, h []api.Event, want bool, err api.Errno) []int {
	t.Helper()
	x := handed{begin, h}.guarded()
	before := x.whole()
	first, yes, e := Find(x.begin, x.h)
	second, again, f := Find(x.begin, x.h)
	if yes != want || again != want || e != err || f != err {
		t.Errorf("%v: Find tells %v %v, then %v %v, not %v %v", x, yes, e, again, f, want, err)
	}
	if some := Any(x.begin, x.h); some != want {
		t.Errorf("%v: Any tells %v", x, some)
	}
	if !slices.Equal(first, second) || !yes && len(first) != 0 {
		t.Errorf("%v: Find tells %v, then %v", x, first, second)
	}
	if yes && !order.Right(begin, h, first) {
		t.Errorf("%v: %v is not right", x, first)
	}
	told := slices.Clone(first)
	for i := range first[:cap(first)] {
		first[:cap(first)][i] = -777
	}
	if !slices.Equal(second, told) {
		t.Errorf("%v: two answers share memory", x)
	}
	if !x.whole().same(before) {
		t.Errorf("%v: is not what was handed in any more", x)
	}
	return second
}

// checkAny checks that there is an order.
func checkAny(t *testing.T, begin []api.Pair, h []api.Event) {
	t.Helper()
	find(t, begin, h, true, 0)
}

// checkNone checks that there is no order, and no error.
func checkNone(t *testing.T, begin []api.Pair, h []api.Event) {
	t.Helper()
	find(t, begin, h, false, 0)
}

// checkArg checks that what is handed in may not be.
func checkArg(t *testing.T, begin []api.Pair, h []api.Event) {
	t.Helper()
	find(t, begin, h, false, 1)
}

// checkOne checks that there is an order, and that it is this one.
func checkOne(t *testing.T, begin []api.Pair, h []api.Event, want ...int) {
	t.Helper()
	if l := find(t, begin, h, true, 0); !slices.Equal(l, want) {
		t.Errorf("%v: Find tells %v, not %v", handed{begin, h}, l, want)
	}
}

// rightOf is all orders of the history that are right: each list of its calls'
// places, each once, is asked.
func rightOf(begin []api.Pair, h []api.Event) [][]int {
	var found [][]int
	n := len(past.Calls(h))
	var grow func(l []int)
	grow = func(l []int) {
		if order.Right(begin, h, l) {
			found = append(found, slices.Clone(l))
		}
		for at := range n {
			if !slices.Contains(l, at) {
				grow(append(l, at))
			}
		}
	}
	grow(make([]int, 0, n))
	return found
}

// checkOf checks whatever is handed in, of few calls, against whether any of all
// orders is right.
func checkOf(t *testing.T, begin []api.Pair, h []api.Event) int {
	t.Helper()
	if !leaf.May(begin) || !past.May(h) {
		checkArg(t, begin, h)
		return 0
	}
	found := rightOf(begin, h)
	l := find(t, begin, h, len(found) > 0, 0)
	if len(found) > 0 && !slices.ContainsFunc(found, func(m []int) bool { return slices.Equal(l, m) }) {
		t.Errorf("%v: Find tells %v, which is none of %v", handed{begin, h}, l, found)
	}
	return len(found)
}

// rolls is numbers below n, one after the other, always the same ones.
func rolls() func(n int) int {
	x := uint64(20)
	return func(n int) int {
		x = x*6364136223846793005 + 1442695040888963407
		return int(x>>33) % n
	}
}

// rolledOp is some operation on few keys.
func rolledOp(roll func(int) int) api.Op {
	return api.Op{Kind: oPut + roll(oMax), Key: roll(3), Hi: roll(4), Val: roll(3)}
}

// rolled is a history of so many calls as so many threads at work on one map may
// make it: some are refused, some have not returned.
func rolled(roll func(int) int, begin []api.Pair, threads, calls int) []api.Event {
	type work struct {
		op   api.Op
		told *api.Ans
	}
	m := model.New(begin...)
	var h []api.Event
	at := make([]*work, threads)
	for n := 0; n < calls || roll(7) > 0; {
		thread := roll(threads)
		w := at[thread]
		switch {
		case w == nil && n == calls:
		case w == nil:
			n++
			at[thread] = &work{op: rolledOp(roll)}
			h = append(h, api.Event{Thread: thread, Op: at[thread].op})
		case w.told == nil && roll(9) == 0:
			w.told = &refusals[roll(len(refusals))]
		case w.told == nil:
			ans := m.Do(w.op)
			w.told = &ans
		default:
			at[thread] = nil
			h = append(h, api.Event{Thread: thread, Ret: true, Op: w.op, Ans: *w.told})
		}
	}
	return h
}

// free is a thread that is not at work at the end of the history (none: -1).
func free(h []api.Event) int {
	busy := map[int]bool{}
	for _, e := range h {
		busy[e.Thread] = !e.Ret
	}
	for thread := range maxThreads {
		if !busy[thread] {
			return thread
		}
	}
	return -1
}

// bent is the answer, in each of its fields another one.
func bent(a api.Ans) []api.Ans {
	var l []api.Ans
	turn := func(change func(b *api.Ans)) {
		b := a
		b.Pairs = slices.Clone(a.Pairs)
		change(&b)
		l = append(l, b)
	}
	turn(func(b *api.Ans) { b.Ok = !b.Ok })
	for _, by := range []int{1, -1, 1 << 32, low} {
		turn(func(b *api.Ans) { b.Pair.Key += by })
		turn(func(b *api.Ans) { b.Pair.Val += by })
		turn(func(b *api.Ans) { b.N += by })
		for i := range a.Pairs {
			turn(func(b *api.Ans) { b.Pairs[i].Key += by })
			turn(func(b *api.Ans) { b.Pairs[i].Val += by })
		}
	}
	turn(func(b *api.Ans) { b.Pairs = append(b.Pairs, api.Pair{}) })
	turn(func(b *api.Ans) { b.Pairs = append(b.Pairs, pairs(9, 9)...) })
	if len(a.Pairs) > 0 {
		turn(func(b *api.Ans) { b.Pairs = nil })
		turn(func(b *api.Ans) { b.Pairs = b.Pairs[1:] })
		turn(func(b *api.Ans) { b.Pairs = b.Pairs[:len(b.Pairs)-1] })
	}
	if len(a.Pairs) > 1 {
		turn(func(b *api.Ans) { slices.Reverse(b.Pairs) })
	}
	return l
}

// TestNumbers: the numbers are the document's.
func TestNumbers(t *testing.T) {
	kinds := []int{api.OPut, api.OAdd, api.OCut, api.OGet, api.ORange, api.OCount, api.OMin, api.OMax}
	if !slices.Equal(kinds, []int{1, 2, 3, 4, 5, 6, 7, 8}) || api.OK != 0 || api.ErrArg != 1 || api.MaxThreads != maxThreads || api.MaxCalls != maxCalls {
		t.Error(kinds, api.OK, api.ErrArg, api.MaxThreads, api.MaxCalls)
	}
}

// TestExample: the chapter's example: two reads of unlike values, no write: none.
func TestExample(t *testing.T) {
	for _, x := range [][2]api.Ans{{was(1, 5), was(1, 6)}, {was(1, 6), was(1, 5)}, {was(1, 5), none}, {none, was(1, 5)}, {was(1, 6), was(1, 7)}} {
		for _, begin := range [][]api.Pair{nil, pairs(1, 5), pairs(1, 6)} {
			checkNone(t, begin, of(call(0, 0, 1, get(1), x[0]), call(0, 2, 3, get(1), x[1])))
			checkNone(t, begin, of(call(0, 0, 2, get(1), x[0]), call(1, 1, 3, get(1), x[1])))
			checkNone(t, begin, of(call(0, 0, 3, get(1), x[0]), call(1, 1, 2, get(1), x[1])))
		}
	}
	checkAny(t, pairs(1, 5), row(said(0, get(1), was(1, 5)), said(0, get(1), was(1, 5))))
}

// TestNothing: P20.1: of no events the order of no calls is right.
func TestNothing(t *testing.T) {
	for _, begin := range [][]api.Pair{nil, {}, pairs(1, 5), pairs(low, high, 0, 0, high, low)} {
		checkOne(t, begin, nil)
		checkOne(t, begin, []api.Event{})
	}
}

// TestBeginNot: P20.1: a beginning that may not be.
func TestBeginNot(t *testing.T) {
	for _, begin := range [][]api.Pair{
		pairs(1, 5, 1, 5), pairs(1, 5, 1, 6), pairs(2, 5, 1, 6), pairs(0, 0, 0, 0), pairs(high, 1, low, 2), pairs(low, 1, low, 1), pairs(high, 1, high, 1),
		pairs(1, 1, 2, 2, 3, 3, 3, 4), pairs(1, 1, 1, 1, 2, 2, 3, 3), pairs(1, 1, 3, 2, 2, 3, 4, 4), pairs(-1, 1, -2, 2), pairs(0, 1, -1<<32, 2),
	} {
		checkArg(t, begin, nil)
		checkArg(t, begin, of(open(0, 0, put(4, 4))))
		checkArg(t, begin, of(call(0, 0, 1, get(77), none)))
		checkArg(t, begin, of(call(0, 0, 1, get(77), was(77, 1))))
		checkArg(t, begin, of(call(0, 0, 1, get(77), full)))
	}
}

// TestHistoryNot: P20.1: a history that may not be.
func TestHistoryNot(t *testing.T) {
	begins, returns := api.Event{Op: get(1)}, api.Event{Ret: true, Op: get(1)}
	other, told, wrong := begins, begins, begins
	other.Thread, told.Ans, wrong.Op.Kind = 1, many(1), 9
	wrongReturns, otherReturns, farReturns := returns, returns, returns
	wrongReturns.Op.Kind, otherReturns.Thread, farReturns.Op.Hi = 9, 1, 6
	for _, h := range [][]api.Event{
		{returns}, {returns, begins}, {begins, begins}, {begins, begins, returns}, {begins, returns, returns}, {begins, other, returns, returns},
		{begins, otherReturns}, {begins, farReturns}, {told}, {told, returns}, {wrong}, {wrong, wrongReturns}, {begins, returns, wrong},
		{{Thread: maxThreads, Op: get(1)}}, {{Thread: -1, Op: get(1)}}, {begins, returns, {Thread: high, Op: get(1)}}, {{}},
	} {
		checkArg(t, nil, h)
		checkArg(t, pairs(1, 5), h)
		checkArg(t, pairs(2, 5, 1, 5), h)
		behind := append(of(call(5, 0, 1, get(1), was(1, 7))), h...)
		checkArg(t, nil, behind)
	}
	checkAny(t, nil, []api.Event{begins, other, returns, otherReturns})
}

// checkMany checks that a history that may be has too many calls.
func checkMany(t *testing.T, begin []api.Pair, h []api.Event) {
	t.Helper()
	if !leaf.May(begin) || !past.May(h) || len(past.Calls(h)) <= maxCalls {
		t.Errorf("%v: is refused for something else", handed{begin, h})
	}
	checkArg(t, begin, h)
}

// TestMost: P20.1: as many calls as may be, and one more, whether they have
// returned, were refused, or have an order.
func TestMost(t *testing.T) {
	var calls []api.Call
	for i := range maxCalls {
		checkOne(t, nil, row(calls...), upTo(i)...)
		calls = append(calls, said(i%maxThreads, put(i, -i), none))
	}
	checkOne(t, nil, row(calls...), upTo(maxCalls)...)
	h := row(calls...)
	for _, more := range []api.Call{
		said(0, put(77, 1), none), said(1, get(3), was(3, -3)), said(2, get(3), none), said(3, put(77, 1), full), said(4, get(77), none),
	} {
		checkMany(t, nil, row(append(slices.Clone(calls), more)...))
		checkMany(t, nil, row(append([]api.Call{more}, calls...)...))
		checkMany(t, nil, append(slices.Clone(h), api.Event{Thread: more.Thread, Op: more.Op}))
		checkMany(t, nil, append([]api.Event{{Thread: 5, Op: more.Op}}, of(retold(calls, 5, 0)...)...))
	}
	var refused, opened []api.Call
	for i := range maxCalls {
		refused = append(refused, said(i%maxThreads, put(i, -i), full))
		if i < maxThreads {
			opened = append(opened, open(i, i, put(i, -i)))
		}
	}
	checkOne(t, nil, row(refused...))
	checkMany(t, nil, row(append(refused, refused[0])...))
	checkAny(t, nil, append(row(refused[maxThreads:]...), of(opened...)...))
	checkMany(t, nil, append(row(refused[maxThreads-1:]...), of(opened...)...))
	calls[maxCalls-1].Ans = many(1)
	checkNone(t, nil, row(calls...))
	for n := maxCalls + 1; n < 40; n++ {
		calls = append(calls, said(0, get(77), none))
		checkMany(t, nil, row(calls...))
	}
	calls = append(calls, make([]api.Call, 60000)...)
	for i := range calls {
		calls[i] = said(i%maxThreads, get(i), none)
	}
	checkMany(t, nil, row(calls...))
}

// upTo is the numbers below n, in order.
func upTo(n int) []int {
	l := make([]int, n)
	for i := range l {
		l[i] = i
	}
	return l
}

// retold is the calls, one after the other, those of one thread by another one.
func retold(l []api.Call, from, to int) []api.Call {
	l = slices.Clone(l)
	for i := range l {
		l[i].From, l[i].To = 2*i, 2*i+1
		if l[i].Thread == from {
			l[i].Thread = to
		}
	}
	return l
}

// TestJustOne: P20.1: histories of which just one order is right.
func TestJustOne(t *testing.T) {
	at := pairs(1, 5)
	for _, x := range []struct {
		begin []api.Pair
		calls []api.Call
		want  []int
	}{
		{at, []api.Call{call(5, 0, 1, put(1, 7), was(1, 5))}, []int{0}},
		{at, []api.Call{call(0, 0, 1, put(0, 9), none), call(1, 2, 3, within(low, high), all(0, 9, 1, 5))}, []int{0, 1}},
		{at, []api.Call{call(0, 0, 2, put(1, 7), was(1, 5)), call(1, 1, 3, get(1), was(1, 7))}, []int{0, 1}},
		{at, []api.Call{call(0, 0, 2, put(1, 7), was(1, 5)), call(1, 1, 3, get(1), was(1, 5))}, []int{1, 0}},
		{at, []api.Call{call(0, 0, 3, put(1, 7), was(1, 5)), call(1, 1, 2, get(1), was(1, 5))}, []int{1, 0}},
		{at, []api.Call{call(0, 0, 3, put(1, 7), was(1, 5)), call(1, 1, 2, get(1), was(1, 7))}, []int{0, 1}},
		{nil, []api.Call{
			call(0, 0, 3, put(1, 1), was(1, 3)), call(1, 1, 4, put(1, 2), none), call(2, 2, 5, put(1, 3), was(1, 2)), call(0, 6, 7, get(1), was(1, 1)),
		}, []int{1, 2, 0, 3}},
		{at, []api.Call{
			call(0, 0, 6, count(low, high), many(2)), call(1, 1, 2, add(2, 6), none), call(1, 3, 5, add(3, 7), none), call(2, 4, 7, most(), was(3, 7)),
		}, []int{1, 0, 2, 3}},
		{nil, []api.Call{call(0, 0, 2, add(0, 1), none), call(1, 1, 3, add(0, 2), was(0, 1))}, []int{0, 1}},
		{nil, []api.Call{call(0, 0, 2, add(0, 1), was(0, 2)), call(1, 1, 3, add(0, 2), none)}, []int{1, 0}},
		{at, []api.Call{call(0, 0, 3, cut(1), was(1, 5)), call(1, 1, 2, least(), none)}, []int{0, 1}},
		{at, []api.Call{call(0, 0, 3, cut(1), was(1, 5)), call(1, 1, 2, least(), was(1, 5))}, []int{1, 0}},
		{pairs(0, 0), []api.Call{call(0, 0, 4, cut(0), was(0, 0)), call(1, 1, 5, put(0, 0), none), call(2, 2, 3, get(0), none)}, []int{0, 2, 1}},
	} {
		h := of(x.calls...)
		if l := rightOf(x.begin, h); len(l) != 1 {
			t.Error("not just one order is right", x, l)
		}
		checkOne(t, x.begin, h, x.want...)
	}
}

// TestSolo: P20.1: of calls one after the other the order is theirs.
func TestSolo(t *testing.T) {
	roll := rolls()
	for n := range maxCalls + 1 {
		for range 20 {
			begin := pairs(0, 1, 2, roll(3))[roll(3):]
			m := model.New(begin...)
			var calls []api.Call
			for range n {
				op := rolledOp(roll)
				calls = append(calls, said(roll(maxThreads), op, m.Do(op)))
			}
			checkOne(t, begin, row(calls...), upTo(n)...)
		}
	}
}

// TestOpenMust: P20.1: what has not returned is named where what others were told
// hangs on it.
func TestOpenMust(t *testing.T) {
	at := pairs(1, 5)
	checkOne(t, at, of(open(0, 0, put(1, 7)), call(1, 1, 2, get(1), was(1, 7))), 0, 1)
	checkOne(t, at, of(open(0, 1, put(1, 7)), call(1, 0, 2, get(1), was(1, 7))), 1, 0)
	checkOne(t, at, of(open(0, 0, put(1, 7)), call(1, 1, 2, get(1), was(1, 5)), call(1, 3, 4, get(1), was(1, 7))), 1, 0, 2)
	checkOne(t, at, of(open(0, 0, cut(1)), call(1, 1, 2, add(1, 7), none)), 0, 1)
	checkOne(t, at, of(open(0, 0, cut(1)), open(1, 1, add(1, 8)), call(2, 2, 3, within(0, 9), all(1, 8))), 0, 1, 2)
	checkOne(t, at, of(open(0, 0, add(1, 8)), open(1, 1, cut(1)), call(2, 2, 3, get(1), was(1, 8))), 1, 0, 2)
	checkOne(t, nil, of(open(0, 0, put(1, 1)), open(1, 1, put(2, 2)), call(2, 2, 3, most(), was(1, 1)), call(2, 4, 5, most(), was(2, 2))), 0, 2, 1, 3)
	checkOne(t, nil, of(open(0, 0, put(2, 2)), open(1, 1, put(1, 1)), call(2, 2, 3, most(), was(1, 1)), call(2, 4, 5, most(), was(2, 2))), 1, 2, 0, 3)
	var calls []api.Call
	for i := range maxThreads - 1 {
		calls = append(calls, open(i, i, put(1, i)))
	}
	calls = append(calls, call(5, 5, 6, get(1), was(1, 3)), call(5, 7, 8, get(1), was(1, 0)), call(5, 9, 10, get(1), was(1, 4)), call(5, 11, 12, get(1), was(1, 2)), call(5, 13, 14, get(1), was(1, 1)))
	checkOne(t, at, of(calls...), 3, 5, 0, 6, 4, 7, 2, 8, 1, 9)
}

// TestOpenNot: P20.1: what has not returned is not named where what others were
// told does not bear it.
func TestOpenNot(t *testing.T) {
	at := pairs(1, 5)
	for _, h := range [][]api.Event{
		of(open(0, 0, put(1, 7)), call(1, 1, 2, get(1), was(1, 5))),
		of(open(0, 0, cut(1)), call(1, 1, 2, least(), was(1, 5))),
		of(open(0, 0, add(0, 7)), call(1, 1, 2, count(0, 9), many(1))),
		of(open(0, 0, add(0, 7)), open(1, 1, put(1, 7)), open(2, 2, cut(1)), call(3, 3, 4, within(0, 9), all(1, 5))),
	} {
		l := find(t, at, h, true, 0)
		looks := len(past.Calls(h)) - 1
		if at := slices.Index(l, looks); at < 0 || at > 0 && l[0] != looks {
			t.Errorf("%v: %v names what it can't ahead of the look", h, l)
		}
	}
	// Where it would have had to be ahead of what was told otherwise.
	checkNone(t, at, of(open(0, 0, put(1, 7)), call(1, 1, 2, get(1), was(1, 7)), call(1, 3, 4, get(1), was(1, 5))))
	checkNone(t, at, of(call(1, 0, 1, get(1), was(1, 7)), open(0, 2, put(1, 7))))
	checkNone(t, at, of(open(0, 0, put(1, 7)), call(1, 1, 2, get(1), was(1, 8))))
	checkNone(t, at, of(open(0, 0, get(1)), call(1, 1, 2, get(1), was(1, 8))))
	// Each of them may be named once.
	checkNone(t, at, of(open(0, 0, put(1, 7)), call(1, 1, 2, get(1), was(1, 7)), call(1, 3, 4, put(1, 8), was(1, 7)), call(1, 5, 6, get(1), was(1, 7))))
	checkNone(t, at, of(open(0, 0, cut(1)), call(1, 1, 2, add(1, 7), none), call(1, 3, 4, add(1, 8), none)))
}

// TestOpenBehind: P20.1: what has not returned comes behind what had returned
// when it began, and holds up nothing.
func TestOpenBehind(t *testing.T) {
	at := pairs(1, 5)
	checkNone(t, at, of(call(0, 0, 1, get(1), was(1, 7)), open(1, 2, put(1, 7)), call(2, 3, 4, get(1), was(1, 7))))
	checkOne(t, at, of(call(0, 0, 3, get(1), was(1, 7)), open(1, 1, put(1, 7)), call(2, 2, 4, get(1), was(1, 5))), 2, 1, 0)
	checkOne(t, at, of(call(0, 0, 1, get(1), was(1, 5)), open(1, 2, put(1, 7)), call(2, 3, 4, get(1), was(1, 7))), 0, 1, 2)
	checkAny(t, at, of(open(0, 0, get(1)), open(1, 1, get(1)), call(2, 2, 3, get(1), was(1, 5))))
	checkAny(t, at, of(open(0, 0, put(1, 6)), open(1, 1, put(1, 7))))
}

// TestRefused: P20.1: what was refused is named by no order, has done nothing,
// and holds up nothing.
func TestRefused(t *testing.T) {
	at := pairs(1, 5)
	for _, ans := range refusals {
		checkOne(t, at, of(call(0, 0, 1, put(1, 7), ans)))
		checkOne(t, at, of(call(0, 0, 1, put(1, 7), ans), call(0, 2, 3, get(1), was(1, 5))), 1)
		checkNone(t, at, of(call(0, 0, 1, put(1, 7), ans), call(0, 2, 3, get(1), was(1, 7))))
		checkNone(t, at, of(call(0, 0, 3, put(1, 7), ans), call(1, 1, 2, get(1), was(1, 7))))
		checkOne(t, at, of(call(0, 0, 3, put(1, 7), ans), call(1, 1, 2, get(1), was(1, 5)), call(1, 4, 5, get(1), was(1, 5))), 1, 2)
		checkOne(t, at, of(call(0, 0, 1, get(1), ans), call(0, 2, 3, cut(1), ans), call(0, 4, 5, within(0, 9), ans)))
		checkOne(t, at, of(call(0, 0, 1, get(1), was(1, 5)), call(1, 2, 3, cut(1), ans), call(2, 4, 5, get(1), was(1, 5))), 0, 2)
		checkOne(t, at, of(open(2, 0, put(1, 7)), call(0, 1, 2, put(1, 7), ans), call(0, 3, 4, get(1), was(1, 7))), 0, 2)
	}
}

// TestTakenBack: P20.1: where a call that may come first leads nowhere another
// one is tried, whichever of them began first.
func TestTakenBack(t *testing.T) {
	const n = maxThreads - 1
	for first := range n {
		for by := 1; by < n; by++ {
			// All at once put 1; from first on, by so many, one after the other was
			// there.
			var calls []api.Call
			want := []int{first}
			for i := range n {
				calls = append(calls, call(i, i, n+i, put(1, i+10), none))
			}
			for i := 1; i < n; i++ {
				at := (first + i*by) % n
				calls[at].Ans = was(1, want[i-1]+10)
				want = append(want, at)
			}
			h := append(of(calls...), of(call(5, 0, 1, get(1), was(1, want[n-1]+10)))...)
			checkOne(t, nil, h, append(slices.Clone(want), n)...)
			h[len(h)-1].Ans = was(1, want[n-2]+10)
			checkNone(t, nil, h)
		}
	}
}

// TestSameNamed: P20.1: the same calls named in another order leave another map:
// that one leads nowhere says nothing of the other one.
func TestSameNamed(t *testing.T) {
	// a and b have not returned. The first look tells that a came, and not b behind
	// it; the second one that b came behind a. Where both came ahead of the first
	// look, b first, the second one fits no more.
	for _, x := range []struct {
		begin         []api.Pair
		a, b          api.Op
		first, second api.Ans
	}{
		{nil, put(1, 7), put(1, 8), all(1, 7), all(1, 8)},
		{nil, put(1, 0), put(1, 8), all(1, 0), all(1, 8)},
		{nil, put(1, 8), put(1, 0), all(1, 8), all(1, 0)},
		{pairs(1, 5), put(1, 7), cut(1), all(1, 7), all()},
		{pairs(1, 5), cut(1), put(1, 7), all(), all(1, 7)},
		{pairs(1, 5), put(1, 0), cut(1), all(1, 0), all()},
		{pairs(1, 5), cut(1), put(1, 0), all(), all(1, 0)},
		{pairs(1, 5), cut(1), add(1, 0), all(), all(1, 0)},
		{pairs(0, 0), cut(0), put(0, 0), all(), all(0, 0)},
		{pairs(0, 0, 1, 5, 2, 0), cut(1), add(1, 9), all(0, 0, 2, 0), all(0, 0, 1, 9, 2, 0)},
		{pairs(low, 1, high, 2), put(high, 7), put(high, 8), all(low, 1, high, 7), all(low, 1, high, 8)},
		{pairs(low, 1, high, 2), cut(low), put(low, 0), all(high, 2), all(low, 0, high, 2)},
		{pairs(1, 5, 2, 6), put(2, 7), put(2, 6), all(1, 5, 2, 7), all(1, 5, 2, 6)},
	} {
		first, second := said(2, within(low, high), x.first), said(2, within(low, high), x.second)
		for n := range maxCalls - 4 {
			var ahead []api.Call
			for range n {
				ahead = append(ahead, said(0, get(77), none))
			}
			for a := range 2 {
				h := row(ahead...)
				h = append(h, of(open(a, a, x.a), open(1-a, 1-a, x.b))...)
				h = append(h, row(first, second)...)
				checkOne(t, x.begin, h, append(upTo(n), n+a, n+2, n+1-a, n+3)...)
				checkNone(t, x.begin, append(h, row(first)...))
			}
		}
	}
}

// TestNone: P20.1: histories of which no order is right.
func TestNone(t *testing.T) {
	at := pairs(1, 5)
	for _, h := range [][]api.Event{
		row(said(0, put(1, 7), was(1, 5)), said(1, get(1), none)), row(said(0, put(1, 7), was(1, 5)), said(1, get(1), was(1, 5))),
		row(said(0, get(1), was(1, 7)), said(1, put(1, 7), was(1, 5))), row(said(0, put(1, 7), was(1, 8)), said(0, put(1, 8), was(1, 5))),
		row(said(0, cut(1), none), said(0, cut(1), was(1, 5)), said(0, get(1), none)), row(said(0, put(1, 7), was(1, 5)), said(1, put(1, 8), was(1, 5))),
		of(call(0, 0, 2, put(1, 7), was(1, 5)), call(1, 1, 3, put(1, 8), was(1, 5))), of(call(0, 0, 2, put(1, 7), was(1, 8)), call(1, 1, 3, put(1, 8), was(1, 7))),
		of(call(0, 0, 2, cut(1), was(1, 5)), call(1, 1, 3, cut(1), was(1, 5))), of(call(0, 0, 2, cut(1), none), call(1, 1, 3, cut(1), none)),
		of(call(0, 0, 2, add(2, 1), none), call(1, 1, 3, add(2, 2), none)), of(call(0, 0, 2, put(1, 7), was(1, 5)), call(1, 1, 3, get(1), none)),
		// One put, of which one look tells, and a later one does not any more.
		of(call(0, 0, 5, put(1, 7), was(1, 5)), call(1, 1, 2, get(1), was(1, 7)), call(2, 3, 4, get(1), was(1, 5))),
		// Two looks at once, of two puts at once, each of which tells of another
		// one first.
		of(call(0, 0, 10, put(1, 1), none), call(1, 1, 11, put(2, 2), none), call(2, 2, 4, get(1), was(1, 1)), call(3, 3, 5, get(2), was(2, 2)),
			call(2, 6, 8, get(2), none), call(3, 7, 9, get(1), none)),
	} {
		checkNone(t, at, h)
	}
}

// TestTooLate: P20.1: a read that began when a put of its key had returned was
// told that there is none.
func TestTooLate(t *testing.T) {
	for _, begin := range [][]api.Pair{nil, pairs(1, 5), pairs(0, 1, 2, 3)} {
		had := none
		if len(begin) == 1 {
			had = was(1, 5)
		}
		for _, look := range []api.Call{call(1, 2, 3, get(1), none), call(1, 2, 3, count(1, 1), many(0)), call(1, 2, 3, within(1, 1), none)} {
			puts := call(0, 0, 1, put(1, 7), had)
			checkNone(t, begin, of(puts, look))
			checkNone(t, begin, of(puts, look, open(0, 4, cut(1))))
			checkAny(t, begin, of(puts, call(2, 2, 5, cut(1), was(1, 7)), call(1, 3, 4, look.Op, look.Ans)))
			checkAny(t, begin, of(open(2, 0, cut(1)), call(0, 1, 2, put(1, 7), had), call(1, 3, 4, look.Op, look.Ans)))
			late, soon := call(0, 0, 2, put(1, 7), had), call(1, 1, 3, look.Op, look.Ans)
			find(t, begin, of(late, soon), len(begin) != 1, 0)
		}
	}
}

// told is one of each kind of operation, and what it is told of 1 5, 3 6, 4 7.
func told() []api.Call {
	var l []api.Call
	for i, r := range []struct {
		op  api.Op
		ans api.Ans
	}{
		{put(1, 9), was(1, 5)}, {put(2, 9), none}, {add(3, 9), was(3, 6)}, {add(2, 9), none}, {cut(4), was(4, 7)}, {cut(5), none},
		{get(3), was(3, 6)}, {get(0), none}, {within(1, 3), all(1, 5, 3, 6)}, {within(4, 4), all(4, 7)}, {within(5, 9), all()}, {within(4, 1), all()},
		{count(2, 9), many(2)}, {count(9, 2), many(0)}, {least(), was(1, 5)}, {most(), was(4, 7)},
	} {
		l = append(l, said(i%maxThreads, r.op, r.ans))
	}
	return l
}

// TestEachField: P20.1: with one field of one answer turned there is no order
// any more.
func TestEachField(t *testing.T) {
	begin := pairs(1, 5, 3, 6, 4, 7)
	for _, c := range told() {
		ahead, behind := said(c.Thread, get(77), none), said(c.Thread, get(-77), none)
		checkOne(t, begin, row(c), 0)
		checkOne(t, begin, row(ahead, c, behind), 0, 1, 2)
		beside := call((c.Thread+1)%maxThreads, 0, 3, get(77), none)
		atOnce := call(c.Thread, 1, 2, c.Op, c.Ans)
		checkAny(t, begin, of(beside, atOnce))
		for _, ans := range bent(c.Ans) {
			c.Ans, atOnce.Ans = ans, ans
			checkNone(t, begin, row(c))
			checkNone(t, begin, row(ahead, c, behind))
			checkNone(t, begin, of(beside, atOnce))
		}
		for _, ans := range refusals {
			c.Ans.Err, atOnce.Ans.Err = ans.Err, ans.Err
			checkOne(t, begin, row(c))
			checkOne(t, begin, row(ahead, c, behind), 0, 2)
			checkOne(t, begin, of(beside, atOnce), 0)
		}
	}
}

// TestNoPairsOfAnyKind: R2: nil and empty lists are one.
func TestNoPairsOfAnyKind(t *testing.T) {
	for _, l := range [][]api.Pair{nil, {}, pairs(1, 5)[:0]} {
		h := of(call(0, 0, 1, get(2), api.Ans{Pairs: l}), call(0, 2, 3, within(2, 9), api.Ans{Pairs: l}))
		h[0].Ans.Pairs = l
		checkOne(t, pairs(1, 5), h, 0, 1)
		checkOne(t, l, h, 0, 1)
	}
}

// grown calls f with all histories of so many events at most, of two threads, that
// put 1 7 or look at 1 and are told each of a few things.
func grown(n int, f func(h []api.Event)) {
	ops := []api.Op{put(1, 7), get(1)}
	answers := []api.Ans{none, was(1, 5), was(1, 7), full}
	var grow func(h []api.Event, waits [2]int)
	grow = func(h []api.Event, waits [2]int) {
		f(h)
		if len(h) == n {
			return
		}
		for thread, op := range waits {
			next := waits
			if op > 0 {
				next[thread] = 0
				for _, ans := range answers {
					grow(append(slices.Clone(h), api.Event{Thread: thread, Ret: true, Op: ops[op-1], Ans: ans}), next)
				}
				continue
			}
			for i := range ops {
				next[thread] = i + 1
				grow(append(slices.Clone(h), api.Event{Thread: thread, Op: ops[i]}), next)
			}
		}
	}
	grow(nil, [2]int{})
}

// TestEvery: P20.1, P20.2: all histories of few events.
func TestEvery(t *testing.T) {
	begin := pairs(1, 5)
	yes, no, one := 0, 0, 0
	grown(6, func(h []api.Event) {
		n := len(rightOf(begin, h))
		l, ok, e := Find(begin, h)
		if e != 0 || ok != (n > 0) || ok != Any(begin, h) || ok && !order.Right(begin, h, l) || !ok && len(l) > 0 {
			t.Errorf("%v: Find tells %v %v %v, where %d orders are right", handed{begin, h}, l, ok, e, n)
		}
		switch n {
		case 0:
			no++
		case 1:
			one++
		default:
			yes++
		}
	})
	if yes < 1000 || no < 1000 || one < 1000 {
		t.Error("only so many have orders, none, just one:", yes, no, one)
	}
}

// TestRolled: P20.1, P20.2: histories of few calls of threads at work on one map,
// and with something turned about: against all orders.
func TestRolled(t *testing.T) {
	roll := rolls()
	begin := pairs(0, 1, 2, 2)
	yes, no, one := 0, 0, 0
	tell := func(h []api.Event) {
		switch checkOf(t, begin, h) {
		case 0:
			no++
		case 1:
			one++
		default:
			yes++
		}
	}
	for i := range 400 {
		h := rolled(roll, begin, 1+roll(maxThreads), i%6)
		if checkOf(t, begin, h) == 0 {
			t.Errorf("%v: no order is right", h)
		}
		for place := range h {
			other := slices.Clone(h)
			other[place].Ans = bent(h[place].Ans)[roll(8)]
			tell(other)
			other = slices.Delete(slices.Clone(h), place, place+1)
			tell(other)
			other = slices.Clone(h)
			with := roll(len(h))
			other[place], other[with] = h[with], h[place]
			tell(other)
			other = slices.Clone(h)
			other[place].Ans, other[with].Ans = h[with].Ans, h[place].Ans
			tell(other)
		}
	}
	if yes < 1000 || no < 1000 || one < 300 {
		t.Error("only so many have orders, none, just one:", yes, no, one)
	}
}

// TestRolledMost: P20.1, P20.2: histories of as many calls as may be, of threads
// at work on one map, have an order; so has each beginning of them, and that with
// a call more that has not returned. A call that was told what nobody can be told
// has none.
func TestRolledMost(t *testing.T) {
	roll := rolls()
	begin := pairs(0, 1, 2, 2)
	for i := range 150 {
		h := rolled(roll, begin, 1+roll(maxThreads), maxCalls-i%4)
		checkAny(t, begin, h)
		for n := range h {
			checkAny(t, begin, h[:n])
			if thread := free(h[:n]); thread >= 0 && len(past.Calls(h[:n])) < maxCalls {
				checkAny(t, begin, append(slices.Clone(h[:n]), api.Event{Thread: thread, Op: rolledOp(roll)}))
			}
			if h[n].Ret && h[n].Ans.Err == 0 {
				other := slices.Clone(h[:n+1])
				other[n].Ans.Pair.Val += 100
				checkNone(t, begin, other)
			}
		}
	}
}

// TestGoesOn: P20.2: a beginning of a history that has an order has one, and with
// a call more that has not returned it has one still, also where others hang on
// what has not returned.
func TestGoesOn(t *testing.T) {
	roll := rolls()
	begin := pairs(1, 5)
	grown(6, func(h []api.Event) {
		if !Any(begin, h) {
			return
		}
		for n := range h {
			if !Any(begin, h[:n]) {
				t.Errorf("%v has an order, its first %d have none", h, n)
			}
		}
		op := rolledOp(roll)
		checkAny(t, begin, append(slices.Clone(h), api.Event{Thread: 2 + roll(4), Op: op}))
	})
}

// soon checks that there is no order, and that this is told soon.
func soon(t *testing.T, begin []api.Pair, h []api.Event) {
	t.Helper()
	if n := len(past.Calls(h)); n != maxCalls {
		t.Fatalf("%d calls", n)
	}
	done := make(chan struct{})
	go func() {
		defer close(done)
		if l, ok, e := Find(begin, h); ok || len(l) > 0 || e != 0 {
			t.Errorf("%v: Find tells %v %v %v", handed{begin, h}, l, ok, e)
		}
	}()
	select {
	case <-done:
	case <-time.After(30 * time.Second):
		t.Fatalf("%v: no end", handed{begin, h})
	}
}

// slid is the history of these calls, as many at once as threads may be at work:
// each begins when the one so many places ahead of it has returned.
func slid(l []api.Call) []api.Event {
	var h []api.Event
	for i := range len(l) + maxThreads {
		if at := i - maxThreads; at >= 0 {
			h = append(h, api.Event{Thread: at % maxThreads, Ret: true, Op: l[at].Op, Ans: l[at].Ans})
		}
		if i < len(l) {
			h = append(h, api.Event{Thread: i % maxThreads, Op: l[i].Op})
		}
	}
	return h
}

// layered is the history of these calls, in layers: as many as threads may be at
// work begin, then these return.
func layered(l []api.Call) []api.Event {
	var h []api.Event
	for layer := range slices.Chunk(l, maxThreads) {
		for i, c := range layer {
			h = append(h, api.Event{Thread: i, Op: c.Op})
		}
		for i, c := range layer {
			h = append(h, api.Event{Thread: i, Ret: true, Op: c.Op, Ans: c.Ans})
		}
	}
	return h
}

// opened is the history of these calls, those of the first so many of which have
// not returned; the others are one after the other.
func opened(n int, l []api.Call) []api.Event {
	var h []api.Event
	for i, c := range l {
		thread := min(i, n)
		h = append(h, api.Event{Thread: thread, Op: c.Op})
		if i >= n {
			h = append(h, api.Event{Thread: thread, Ret: true, Op: c.Op, Ans: c.Ans})
		}
	}
	return h
}

// TestSoon: P20.1, P20.2: a search over as many calls as may be, as many of them
// at once as may be, of which the last answer fits none of the orders, comes to
// its end.
func TestSoon(t *testing.T) {
	begin := pairs(1, 7, 300, 3)
	for _, make := range []func(i int) api.Call{
		func(i int) api.Call { return said(0, get(1), was(1, 7)) },
		func(i int) api.Call { return said(0, get(i+2), none) },
		func(i int) api.Call { return said(0, put(1, 7), was(1, 7)) },
		func(i int) api.Call { return said(0, put(i+2, i), none) },
		func(i int) api.Call { return said(0, add(i-20, i), none) },
		func(i int) api.Call { return said(0, cut(i+2), none) },
		func(i int) api.Call { return said(0, add(1, i), was(1, 7)) },
		func(i int) api.Call { return said(0, within(300, 301), all(300, 3)) },
		func(i int) api.Call { return said(0, most(), was(300, 3)) },
		func(i int) api.Call {
			return []api.Call{said(0, put(i+2, i), none), said(0, get(300), was(300, 3))}[i%2]
		},
	} {
		for _, last := range []api.Call{said(0, get(300), was(300, 4)), said(0, put(301, 1), was(301, 1)), said(0, count(300, 300), many(2))} {
			var l []api.Call
			for i := range maxCalls - 1 {
				l = append(l, make(i))
			}
			l = append(l, last)
			soon(t, begin, slid(l))
			soon(t, begin, layered(l))
			for n := range maxThreads {
				soon(t, begin, opened(n, l))
			}
			for i := range maxThreads - 1 {
				l[i].Op = put(1, i)
			}
			l[maxThreads-1].Op, l[maxThreads-1].Ans = get(300), was(300, 3)
			for i := range l[maxThreads:] {
				l[maxThreads+i].Op, l[maxThreads+i].Ans = get(300), was(300, 3)
			}
			l[maxCalls-1] = last
			soon(t, begin, opened(maxThreads-1, l))
		}
	}
}

// TestSoonOfMany: P20.1: also of a beginning of many pairs.
func TestSoonOfMany(t *testing.T) {
	var begin []api.Pair
	for i := range 3000 {
		begin = append(begin, api.Pair{Key: i, Val: -i})
	}
	var l []api.Call
	for i := range maxCalls {
		l = append(l, said(0, put(3*i, -3*i), was(3*i, -3*i)))
	}
	checkAny(t, begin, slid(l))
	checkAny(t, begin, layered(l))
	l[maxCalls-1] = said(0, count(low, high), many(3001))
	soon(t, begin, slid(l))
	soon(t, begin, layered(l))
	soon(t, begin, opened(5, l))
}

// TestWild: R3: whatever is handed in, the sentences tell.
func TestWild(t *testing.T) {
	roll := rolls()
	some := []int{low, -1, 0, 1, 2, 3, maxThreads, 1 << 32, high}
	one := func() int { return some[roll(len(some))] }
	for range 20000 {
		var x handed
		for range roll(3) {
			x.begin = append(x.begin, api.Pair{Key: one(), Val: one()})
		}
		for range roll(5) {
			op := api.Op{Kind: roll(10), Key: one(), Hi: one(), Val: one()}
			if roll(9) == 0 {
				op.Kind = one()
			}
			e := api.Event{Thread: roll(3), Ret: roll(2) == 1, Op: op}
			if last := len(x.h) - 1; last >= 0 && roll(3) > 0 {
				e = x.h[last]
				e.Ret, e.Ans = true, api.Ans{Err: api.Errno(roll(9) / 8), N: roll(5) / 4, Ok: roll(5) == 0}
			}
			if roll(9) == 0 {
				e.Thread = one()
			}
			x.h = append(x.h, e)
		}
		checkOf(t, x.begin, x.h)
	}
}

// TestListsOfOneArray: R2: what is handed in may share memory.
func TestListsOfOneArray(t *testing.T) {
	l := pairs(1, 5, 2, 6, 3, 7)
	h := of(call(0, 0, 2, within(0, 9), all()), call(1, 1, 3, within(2, 9), all()), call(2, 4, 5, cut(1), was(1, 5)), call(2, 6, 7, within(0, 9), all()))
	h[2].Ans = api.Ans{N: 3, Pairs: l}
	h[3].Ans = api.Ans{N: 2, Pairs: l[1:]}
	h[7].Ans = api.Ans{N: 2, Pairs: l[1:]}
	if got, ok, e := Find(l, h); !ok || e != 0 || !order.Right(l, h, got) {
		t.Error(got, ok, e)
	}
	if !slices.Equal(l, pairs(1, 5, 2, 6, 3, 7)) {
		t.Error("is not what was handed in any more", l)
	}
}

// TestNotKept: R2, R6: what was told stays when what was handed in changes, and
// nothing is kept of one call for the next.
func TestNotKept(t *testing.T) {
	begin := pairs(1, 5)
	h := of(call(0, 0, 2, put(2, 7), none), call(1, 1, 3, within(0, 9), all(1, 5)))
	l, ok, e := Find(begin, h)
	begin[0] = api.Pair{Key: 2, Val: 9}
	if got, yes, f := Find(begin, h); yes || len(got) > 0 || f != 0 {
		t.Error(got, yes, f)
	}
	clear(h)
	if !ok || e != 0 || !slices.Equal(l, []int{1, 0}) {
		t.Error(l, ok, e)
	}
	checkArg(t, begin, h)
	for range 3 {
		checkNone(t, pairs(1, 5), row(said(0, get(1), was(1, 7))))
		checkOne(t, pairs(1, 7), row(said(0, get(1), was(1, 7))), 0)
	}
}
