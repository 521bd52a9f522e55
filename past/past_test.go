package past

import (
	"math"
	"slices"
	"strings"
	"testing"

	"osier/api"
	"osier/leaf"
)

// Kinds and bounds, by the document.
const (
	oPut   = 1
	oAdd   = 2
	oCut   = 3
	oGet   = 4
	oRange = 5
	oCount = 6
	oMin   = 7
	oMax   = 8

	maxThreads = 6
)

// The ends of int.
const (
	low  = math.MinInt
	high = math.MaxInt
)

// opOf is the operation of a letter, a to h: one of each kind.
func opOf(letter byte) api.Op {
	return []api.Op{
		{Kind: oPut, Key: 1, Hi: -1, Val: 10},
		{Kind: oAdd, Key: 2, Hi: low, Val: high},
		{Kind: oCut, Key: low, Hi: 0, Val: 3},
		{Kind: oGet, Key: high},
		{Kind: oRange, Key: low, Hi: high},
		{Kind: oCount, Key: 5, Hi: -5, Val: low},
		{Kind: oMin},
		{Kind: oMax, Key: 1, Hi: 1, Val: 1},
	}[letter-'a']
}

// toldAt is what the return at that place tells: what no operation would, as a
// history may be whatever was told.
func toldAt(at int) api.Ans {
	return api.Ans{
		Err:   api.Errno(at % 3),
		Ok:    at%2 == 0,
		Pair:  api.Pair{Key: at, Val: -at},
		N:     at * 10,
		Pairs: []api.Pair{{Key: at + 1, Val: 7}, {Key: at - 1, Val: 8}},
	}
}

// of is the history of a text: an event a word, its thread and the letter of its
// operation, which is a capital one where the event is a return.
func of(text string) []api.Event {
	var h []api.Event
	for at, word := range strings.Fields(text) {
		e := api.Event{Thread: int(word[0] - '0')}
		if word[1] < 'a' {
			e.Ret, e.Ans = true, toldAt(at)
		}
		e.Op = opOf(word[1] | 0x20)
		h = append(h, e)
	}
	return h
}

// call is a call by hand: its thread, its places, the letter of its operation.
func call(thread, from, to int, letter byte) api.Call {
	c := api.Call{Thread: thread, From: from, To: to, Op: opOf(letter)}
	if to >= 0 {
		c.Ans = toldAt(to)
	}
	return c
}

// alikeAns says whether both answers are the same.
func alikeAns(a, b api.Ans) bool {
	return a.Err == b.Err && a.Ok == b.Ok && a.Pair == b.Pair && a.N == b.N && slices.Equal(a.Pairs, b.Pairs)
}

func alikeCall(c, d api.Call) bool {
	return c.Thread == d.Thread && c.From == d.From && c.To == d.To && c.Op == d.Op && alikeAns(c.Ans, d.Ans)
}

func alike(l, m []api.Call) bool { return slices.EqualFunc(l, m, alikeCall) }

func alikeEvent(e, f api.Event) bool {
	return e.Thread == f.Thread && e.Ret == f.Ret && e.Op == f.Op && alikeAns(e.Ans, f.Ans)
}

// copied is the same events in memory of their own, with what lies behind their
// lists.
func copied(h []api.Event) []api.Event {
	c := slices.Clone(h)
	for i := range c {
		c[i].Ans.Pairs = slices.Clone(c[i].Ans.Pairs[:cap(c[i].Ans.Pairs)])
	}
	return c
}

// guarded is the same history with events and pairs behind the ends of its lists,
// and a check that neither they nor the history have changed.
func guarded(h []api.Event) ([]api.Event, func(*testing.T)) {
	whole := append(slices.Clone(h), of("0a 0A 6a 0b")...)
	for i := range whole {
		l := whole[i].Ans.Pairs
		whole[i].Ans.Pairs = append(slices.Clone(l), api.Pair{Key: 666, Val: 667})[:len(l)]
	}
	g := whole[:len(h)]
	before := copied(whole)
	return g, func(t *testing.T) {
		t.Helper()
		if !slices.EqualFunc(before, copied(whole), alikeEvent) {
			t.Errorf("%v: a call changed it", h)
		}
	}
}

// spoil writes over the pairs, and over what lies behind them.
func spoil(l []api.Pair) {
	l = l[:cap(l)]
	for i := range l {
		l[i] = api.Pair{Key: -777, Val: -778}
	}
}

// spoilCalls writes over all that Calls told.
func spoilCalls(l []api.Call) {
	for i := range l {
		spoil(l[i].Ans.Pairs)
	}
	l = l[:cap(l)]
	for i := range l {
		l[i] = api.Call{Thread: -7, From: -7, To: -7}
	}
}

// checkCalls holds what Calls tells against calls, and spoils it list by list:
// neither the history, nor another list, nor another answer may change.
func checkCalls(t *testing.T, h []api.Event, want []api.Call) {
	t.Helper()
	g, unchanged := guarded(h)
	first, second := Calls(g), Calls(g)
	if !alike(first, want) || !alike(second, want) {
		t.Errorf("Calls(%v) = %v, %v, want %v", h, first, second, want)
		return
	}
	for i := range first {
		spoil(first[i].Ans.Pairs)
		if !alike(first[i+1:], want[i+1:]) {
			t.Errorf("Calls(%v): the pairs of call %d share memory with others", h, i)
		}
	}
	spoilCalls(first)
	if !alike(second, want) {
		t.Errorf("Calls(%v): two answers share memory", h)
	}
	unchanged(t)
}

// check holds all that is told of a history against what is wanted.
func check(t *testing.T, h []api.Event, may, over, solo bool, want []api.Call) {
	t.Helper()
	g, unchanged := guarded(h)
	if got := May(g); got != may {
		t.Errorf("May(%v) = %v", h, got)
	}
	if got := Over(g); got != over {
		t.Errorf("Over(%v) = %v", h, got)
	}
	if got := Solo(g); got != solo {
		t.Errorf("Solo(%v) = %v", h, got)
	}
	unchanged(t)
	checkCalls(t, h, want)
}

// checkNot checks that it is no history.
func checkNot(t *testing.T, h []api.Event) {
	t.Helper()
	check(t, h, false, false, false, nil)
}

// TestNumbers: the numbers are the document's.
func TestNumbers(t *testing.T) {
	kinds := []int{api.OPut, api.OAdd, api.OCut, api.OGet, api.ORange, api.OCount, api.OMin, api.OMax}
	if !slices.Equal(kinds, []int{oPut, oAdd, oCut, oGet, oRange, oCount, oMin, oMax}) {
		t.Error("kinds", kinds)
	}
	if api.MaxThreads != maxThreads {
		t.Error("threads", api.MaxThreads)
	}
}

// TestByHand: P18.1, P18.2: histories that may be.
func TestByHand(t *testing.T) {
	for _, x := range []struct {
		text       string
		over, solo bool
		calls      []api.Call
	}{
		{"", true, true, nil},
		{"0a", false, true, []api.Call{call(0, 0, -1, 'a')}},
		{"5h", false, true, []api.Call{call(5, 0, -1, 'h')}},
		{"0a 0A", true, true, []api.Call{call(0, 0, 1, 'a')}},
		{"5c 5C", true, true, []api.Call{call(5, 0, 1, 'c')}},
		{"0a 0A 0b 0B", true, true, []api.Call{call(0, 0, 1, 'a'), call(0, 2, 3, 'b')}},
		{"1d 1D 0e", false, true, []api.Call{call(1, 0, 1, 'd'), call(0, 2, -1, 'e')}},
		{"1d 1D 0e 0E 1f", false, true, []api.Call{call(1, 0, 1, 'd'), call(0, 2, 3, 'e'), call(1, 4, -1, 'f')}},
		{"0a 1b", false, false, []api.Call{call(0, 0, -1, 'a'), call(1, 1, -1, 'b')}},
		{"1a 0a", false, false, []api.Call{call(1, 0, -1, 'a'), call(0, 1, -1, 'a')}},
		{"0a 1b 0A", false, false, []api.Call{call(0, 0, 2, 'a'), call(1, 1, -1, 'b')}},
		{"0a 1b 1B", false, false, []api.Call{call(0, 0, -1, 'a'), call(1, 1, 2, 'b')}},
		{"0a 1b 0A 1B", true, false, []api.Call{call(0, 0, 2, 'a'), call(1, 1, 3, 'b')}},
		{"0a 1b 1B 0A", true, false, []api.Call{call(0, 0, 3, 'a'), call(1, 1, 2, 'b')}},
		{"1a 0a 0A 1A", true, false, []api.Call{call(1, 0, 3, 'a'), call(0, 1, 2, 'a')}},
		{"0a 0A 1b 0c 1B 0C", true, false, []api.Call{call(0, 0, 1, 'a'), call(1, 2, 4, 'b'), call(0, 3, 5, 'c')}},
		{"0a 1b 0A 0c 0C 1B", true, false, []api.Call{call(0, 0, 2, 'a'), call(1, 1, 5, 'b'), call(0, 3, 4, 'c')}},
		{"5a 1b 5A 5c 1B 0d 5C", false, false, []api.Call{
			call(5, 0, 2, 'a'), call(1, 1, 4, 'b'), call(5, 3, 6, 'c'), call(0, 5, -1, 'd'),
		}},
		{"5a 4b 3c 2d 1e 0f 5A 4B 3C 2D 1E 0F", true, false, []api.Call{
			call(5, 0, 6, 'a'), call(4, 1, 7, 'b'), call(3, 2, 8, 'c'), call(2, 3, 9, 'd'), call(1, 4, 10, 'e'), call(0, 5, 11, 'f'),
		}},
	} {
		check(t, of(x.text), true, x.over, x.solo, x.calls)
	}
}

// TestNotByHand: P18.1: calls and returns out of turn, returns of another
// operation.
func TestNotByHand(t *testing.T) {
	for _, text := range []string{
		"0A", "5A", "0A 0a", "0A 0A", "1A 0a",
		"0a 0a", "0a 0b", "0a 1b 0a", "0a 0a 0A", "0a 0a 0A 0A", "0a 0A 0b 0b",
		"0a 1A", "1a 0A", "0a 1A 0A", "0a 1a 0A 0A", "0a 0A 0A", "0a 0A 1A", "0a 0A 1b 0A 1B",
		"0a 0B", "0a 1b 0B 1A", "0a 0A 0b 0A", "0a 0A 0b 0B 0c 0B",
		"6a", "6a 6A", "6A", "0a 6a", "0a 0A 9a", "0a 9A",
	} {
		checkNot(t, of(text))
	}
}

// threadsNot is numbers of no thread: those next to the threads, the ends of int,
// and numbers whose lower 8, 16, 32 bits alone are one's.
var threadsNot = []int{
	-1, -2, -5, -6, maxThreads, maxThreads + 1, 60, 1 << 8, 1<<16 + 1, 1 << 32, 1<<32 + 5, -1 << 32,
	low, low + 1, low + 5, high - 1, high,
}

// TestThreads: P18.1: the threads are 0 to MaxThreads - 1.
func TestThreads(t *testing.T) {
	for thread := 0; thread < maxThreads; thread++ {
		h := of("0a 0A 0b")
		for i := range h {
			h[i].Thread = thread
		}
		check(t, h, true, false, true, []api.Call{call(thread, 0, 1, 'a'), call(thread, 2, -1, 'b')})
	}
	for _, thread := range threadsNot {
		h := of("0a 0A 0b 0B")
		for n := range h {
			short := slices.Clone(h[:n+1])
			for i := range short {
				short[i].Thread = thread
			}
			checkNot(t, short)
			short = slices.Clone(h)
			short[n].Thread = thread
			checkNot(t, short)
		}
	}
}

// at is what the history is with that event ahead of the one at that place.
func at(h []api.Event, place int, e api.Event) []api.Event {
	return slices.Insert(slices.Clone(h), place, e)
}

// checkEverywhere checks that there is no place in a history where the event may
// be a call.
func checkEverywhere(t *testing.T, e api.Event) {
	t.Helper()
	h := of("0a 1b 0A 0c 1B 0C")
	for place := 0; place <= len(h); place++ {
		e.Thread = 2
		checkNot(t, at(h, place, e))
		e.Thread = 5
		checkNot(t, at(h, place, e))
	}
}

// TestOps: P18.1: what a call asks for may be.
func TestOps(t *testing.T) {
	for kind := oPut; kind <= oMax; kind++ {
		for _, n := range []int{0, 1, -1, 7, low, high} {
			op := api.Op{Kind: kind, Key: n, Hi: -n, Val: n}
			h := []api.Event{{Thread: 3, Op: op}, {Thread: 3, Ret: true, Op: op}}
			check(t, h, true, true, true, []api.Call{{Thread: 3, To: 1, Op: op}})
		}
	}
	for _, kind := range []int{
		0, -1, -2, -8, 9, 10, 77, 1<<8 + 1, 1<<16 + 2, 1<<32 + 1, 1<<32 + 8, -1<<32 + 1,
		low, low + 1, low + 4, high - 1, high,
	} {
		e := api.Event{Op: api.Op{Kind: kind, Key: 1, Val: 10}}
		checkEverywhere(t, e)
		ret := e
		ret.Ret = true
		checkNot(t, []api.Event{e, ret})
		checkNot(t, []api.Event{ret})
	}
}

// TestCallTellsNothing: P18.1: the answer of a call is zero; a list without pairs
// is no other than none.
func TestCallTellsNothing(t *testing.T) {
	for _, ans := range []api.Ans{
		{Err: api.ErrArg}, {Err: api.ErrState}, {Err: -1}, {Ok: true}, {Pair: api.Pair{Key: 1}}, {Pair: api.Pair{Val: 1}},
		{Pair: api.Pair{Key: low}}, {N: 1}, {N: -1}, {N: 1 << 32}, {Pairs: []api.Pair{{}}}, {Pairs: []api.Pair{{Key: 1, Val: 2}}}, toldAt(3),
	} {
		checkEverywhere(t, api.Event{Op: opOf('d'), Ans: ans})
		checkNot(t, []api.Event{{Op: opOf('d'), Ans: ans}, {Ret: true, Op: opOf('d'), Ans: ans}})
	}
	for _, l := range [][]api.Pair{{}, make([]api.Pair, 0, 3), {{Key: 1}, {Key: 2}}} {
		h := of("0a 0A")
		h[0].Ans.Pairs = l[:0]
		check(t, h, true, true, true, []api.Call{call(0, 0, 1, 'a')})
		check(t, h[:1], true, false, true, []api.Call{call(0, 0, -1, 'a')})
	}
}

// TestReturnOfItsCall: P18.1: what a return names is what its call asks for, in
// all, whether the operation heeds it or not.
func TestReturnOfItsCall(t *testing.T) {
	for _, letter := range []byte("abcdefgh") {
		op := opOf(letter)
		others := []api.Op{{}, op, op, op, op, op, op, op}
		others[1].Kind, others[2].Kind = op.Kind%8+1, op.Kind+1<<32
		others[3].Key, others[4].Key = op.Key^1, op.Key^(1<<40)
		others[5].Hi, others[6].Hi = op.Hi^1, op.Hi^low
		others[7].Val = op.Val ^ 1
		for _, other := range others {
			h := []api.Event{{Op: op}, {Ret: true, Op: other}}
			checkNot(t, h)
			h = append(of("1a 1A"), h...)
			checkNot(t, h)
			checkNot(t, append(h, of("2a")...))
		}
	}
}

// TestReturnTellsWhatever: P18.1: a history may be whatever its returns tell.
func TestReturnTellsWhatever(t *testing.T) {
	for _, ans := range []api.Ans{
		{}, {Err: api.ErrArg}, {Err: 77, Ok: true, N: -1}, {Ok: true, Pair: api.Pair{Key: high, Val: low}}, {N: low},
		{Pairs: []api.Pair{{Key: 2}, {Key: 1}, {Key: 1}}}, {Pairs: []api.Pair{}},
	} {
		h := of("0a 1b 0A 0c")
		h[2].Ans = ans
		c := call(0, 0, 2, 'a')
		c.Ans = ans
		check(t, h, true, false, false, []api.Call{c, call(1, 1, -1, 'b'), call(0, 3, -1, 'c')})
	}
}

// mayBe is May, by its sentence: one thread after the other.
func mayBe(h []api.Event) bool {
	seen := 0
	for thread := 0; thread < maxThreads; thread++ {
		ret, op := false, api.Op{}
		for _, e := range h {
			if e.Thread != thread {
				continue
			}
			seen++
			if e.Ret != ret {
				return false
			}
			if !e.Ret && (e.Op.Kind < oPut || e.Op.Kind > oMax || !alikeAns(e.Ans, api.Ans{})) {
				return false
			}
			if e.Ret && e.Op != op {
				return false
			}
			ret, op = !ret, e.Op
		}
	}
	return seen == len(h)
}

// callsOf is the calls of a history that may be: to each the next event of its
// thread.
func callsOf(h []api.Event) []api.Call {
	var l []api.Call
	for from, e := range h {
		if e.Ret {
			continue
		}
		c := api.Call{Thread: e.Thread, From: from, To: -1, Op: e.Op}
		for i := len(h) - 1; i > from; i-- {
			if h[i].Thread == e.Thread {
				c.To, c.Ans = i, h[i].Ans
			}
		}
		l = append(l, c)
	}
	return l
}

// overOf says whether all events are calls and returns in equal number; soloOf
// whether each return comes just behind its call. Both of a history that may be.
func overOf(h []api.Event) bool {
	n := 0
	for _, e := range h {
		if e.Ret {
			n++
		}
	}
	return 2*n == len(h)
}

func soloOf(h []api.Event) bool {
	for i, e := range h {
		if e.Ret != (i%2 == 1) || i%2 == 1 && e.Thread != h[i-1].Thread {
			return false
		}
	}
	return true
}

// checkOf checks a history, or what is none, against the sentences.
func checkOf(t *testing.T, h []api.Event) {
	t.Helper()
	if !mayBe(h) {
		checkNot(t, h)
		return
	}
	check(t, h, true, overOf(h), soloOf(h), callsOf(h))
}

// TestEvery: P18.1, P18.2: all lists of few events, of two operations in three
// threads.
func TestEvery(t *testing.T) {
	words := strings.Fields("0a 0A 0b 0B 2a 2A 5b 5B")
	var grow func(text string, n int)
	grow = func(text string, n int) {
		checkOf(t, of(text))
		for _, w := range words {
			if n > 0 {
				grow(text+" "+w, n-1)
			}
		}
	}
	grow("", 5)
}

// rolls is numbers below n, one after the other, always the same ones.
func rolls() func(n int) int {
	x := uint64(18)
	return func(n int) int {
		x = x*6364136223846793005 + 1442695040888963407
		return int(x>>33) % n
	}
}

// rolled is a history of so many events.
func rolled(roll func(int) int, threads, n int) []api.Event {
	var h []api.Event
	waits := make([]byte, maxThreads)
	for i := 0; i < n; i++ {
		e := api.Event{Thread: roll(threads)}
		if waits[e.Thread] == 0 {
			waits[e.Thread] = "abcdefgh"[roll(8)]
			e.Op = opOf(waits[e.Thread])
		} else {
			e.Ret, e.Op, e.Ans = true, opOf(waits[e.Thread]), toldAt(i)
			waits[e.Thread] = 0
		}
		h = append(h, e)
	}
	return h
}

// TestRolled: P18.1, P18.2: histories of many threads, and the same with an event
// changed, gone, or twice.
func TestRolled(t *testing.T) {
	roll := rolls()
	for i := 0; i < 300; i++ {
		h := rolled(roll, 1+roll(maxThreads), roll(40))
		if !mayBe(h) {
			t.Fatal("no history", h)
		}
		checkOf(t, h)
		for place := range h {
			checkOf(t, slices.Delete(slices.Clone(h), place, place+1))
			checkOf(t, at(h, place, h[place]))
			bent := slices.Clone(h)
			bent[place].Ret = !bent[place].Ret
			checkOf(t, bent)
			bent[place] = h[place]
			bent[place].Thread = (h[place].Thread + 1) % maxThreads
			checkOf(t, bent)
		}
	}
}

// TestBeginnings: P18.1: what a history begins with is one, too, and what is none
// stays none, whatever comes behind it.
func TestBeginnings(t *testing.T) {
	h := rolled(rolls(), maxThreads, 60)
	for n := range h {
		checkOf(t, h[:n])
		bad := slices.Clone(h)
		bad[n].Thread = maxThreads
		checkNot(t, bad)
		checkNot(t, bad[:n+1])
	}
}

// TestLong: P18.1, P18.2: no bound is named of how many calls a history has.
func TestLong(t *testing.T) {
	const n = 100000
	op := opOf('a')
	var h []api.Event
	for i := 0; i < n; i++ {
		thread := i % 2 * 5
		h = append(h, api.Event{Thread: thread, Op: op}, api.Event{Thread: thread, Ret: true, Op: op})
	}
	if !May(h) || !Over(h) || !Solo(h) || len(Calls(h)) != n {
		t.Error("one call after the other", May(h), Over(h), Solo(h), len(Calls(h)))
	}
	if last := Calls(h)[n-1]; last.From != 2*n-2 || last.To != 2*n-1 || last.Thread != 5 {
		t.Error("the last call", last)
	}
	open := h[:2*n-1]
	if !May(open) || Over(open) || !Solo(open) || len(Calls(open)) != n {
		t.Error("without the last return", May(open), Over(open), Solo(open))
	}
	once := append(of("1h"), h...)
	if !May(once) || Over(once) || Solo(once) || len(Calls(once)) != n+1 {
		t.Error("beside a call that never returns", May(once), Over(once), Solo(once))
	}
	twice := append(slices.Clone(h), of("1h 1h")...)
	if May(twice) || Over(twice) || Solo(twice) || len(Calls(twice)) != 0 {
		t.Error("a call ahead of a return", May(twice), Over(twice), Solo(twice))
	}
}

// TestBefore: P18.2: by hand.
func TestBefore(t *testing.T) {
	for _, x := range []struct {
		c, d api.Call
		want bool
	}{
		{call(0, 0, 1, 'a'), call(0, 2, 3, 'a'), true},
		{call(0, 0, 1, 'a'), call(1, 2, -1, 'b'), true},
		{call(0, 2, 3, 'a'), call(0, 0, 1, 'a'), false},
		{call(0, 0, 2, 'a'), call(1, 1, 3, 'a'), false},
		{call(1, 1, 3, 'a'), call(0, 0, 2, 'a'), false},
		{call(0, 0, 3, 'a'), call(1, 1, 2, 'a'), false},
		{call(0, 0, -1, 'a'), call(1, 1, 2, 'a'), false},
		{call(0, 0, -1, 'a'), call(1, 1, -1, 'a'), false},
		{call(0, 0, 1, 'a'), call(0, 0, 1, 'a'), false},
		{call(0, 7, -1, 'a'), call(0, 7, -1, 'a'), false},
		{call(0, 7, 9, 'a'), call(1, 9, 10, 'a'), false},
		{call(0, 7, 8, 'a'), call(1, 9, 10, 'a'), true},
		{call(0, 0, 1, 'a'), call(1, high, -1, 'a'), true},
		{call(0, 0, high-1, 'a'), call(1, high, -1, 'a'), true},
		{call(0, 0, high, 'a'), call(1, high, -1, 'a'), false},
		{api.Call{To: low}, call(1, 4, 5, 'a'), false},
		{api.Call{To: -2}, call(1, 4, 5, 'a'), false},
	} {
		if got := Before(x.c, x.d); got != x.want {
			t.Errorf("Before(%v, %v) = %v", x.c, x.d, got)
		}
	}
}

// TestBeforeHeedsPlaces: P18.2: nothing goes into Before but where c returned and
// where d began.
func TestBeforeHeedsPlaces(t *testing.T) {
	places := []int{low, low + 1, -2, -1, 0, 1, 2, 3, 1 << 32, high - 1, high}
	for _, to := range places {
		for _, from := range places {
			want := to >= 0 && to < from
			for thread := -1; thread <= maxThreads; thread++ {
				c := api.Call{Thread: thread, To: to, Op: opOf('a'), Ans: toldAt(4)}
				d := api.Call{Thread: 2, From: from, To: -1, Op: opOf('b')}
				if got := Before(c, d); got != want {
					t.Errorf("Before(%v, %v) = %v", c, d, got)
				}
			}
			c, d := api.Call{To: to, From: -3}, api.Call{From: from, To: high}
			if got := Before(c, d); got != want {
				t.Errorf("Before(%v, %v) = %v", c, d, got)
			}
		}
	}
}

// TestOrder: P18.3: among the calls of a history none is before itself, no two
// are before one another, and what is before what is before a call is before it.
func TestOrder(t *testing.T) {
	roll := rolls()
	for i := 0; i < 300; i++ {
		l := Calls(rolled(roll, 1+roll(maxThreads), roll(30)))
		for _, c := range l {
			if Before(c, c) {
				t.Errorf("%v is before itself", c)
			}
			for _, d := range l {
				if Before(c, d) && Before(d, c) {
					t.Errorf("%v and %v are before one another", c, d)
				}
				for _, e := range l {
					if Before(c, d) && Before(d, e) && !Before(c, e) {
						t.Errorf("%v, %v, %v: the first is not before the last", c, d, e)
					}
				}
			}
		}
	}
}

// TestOneThreadInOrder: P18.2, P18.3: of one thread each call is before the next.
func TestOneThreadInOrder(t *testing.T) {
	roll := rolls()
	for i := 0; i < 100; i++ {
		l := Calls(rolled(roll, maxThreads, 60))
		for a, c := range l {
			for b, d := range l {
				if c.Thread == d.Thread && Before(c, d) != (a < b) {
					t.Errorf("Before(%v, %v) = %v", c, d, a >= b)
				}
			}
		}
	}
}

// TestListsOfOneArray: R2: the answers of a history may share their pairs, those
// of its calls don't.
func TestListsOfOneArray(t *testing.T) {
	l := []api.Pair{{Key: 1, Val: 1}, {Key: 2, Val: 2}, {Key: 3, Val: 3}}
	h := of("0a 1b 0A 1B 2c 2C")
	h[2].Ans.Pairs, h[3].Ans.Pairs, h[5].Ans.Pairs = l[:2], l[1:], l
	want := callsOf(h)
	for i := range want {
		want[i].Ans.Pairs = slices.Clone(want[i].Ans.Pairs)
	}
	got := Calls(h)
	for i := range got {
		if !alike(got[i:], want[i:]) {
			t.Errorf("call %d: %v, want %v", i, got[i:], want[i:])
		}
		spoil(got[i].Ans.Pairs)
	}
	if !leaf.Same(l, []api.Pair{{Key: 1, Val: 1}, {Key: 2, Val: 2}, {Key: 3, Val: 3}}) {
		t.Error("the history has changed", l)
	}
}

// TestNotKept: R2, R6: what was told stays when the history changes, and nothing
// is kept of one history for the next.
func TestNotKept(t *testing.T) {
	h := of("0a 1b 0A 1B")
	told, want := Calls(h), callsOf(of("0a 1b 0A 1B"))
	spoil(h[2].Ans.Pairs)
	clear(h)
	if !alike(told, want) {
		t.Errorf("%v, want %v", told, want)
	}
	checkNot(t, h)
	checkNot(t, of("0A"))
	check(t, of("0b 0B"), true, true, true, []api.Call{call(0, 0, 1, 'b')})
}

// TestExample: the chapter's example.
func TestExample(t *testing.T) {
	l := Calls(of("0a 0A"))
	if len(l) != 1 || l[0].From != 0 || l[0].To != 1 {
		t.Error(l)
	}
}
