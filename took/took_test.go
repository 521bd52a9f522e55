package took

import (
	"math"
	"slices"
	"testing"

	"osier/api"
	"osier/order"
	"osier/past"
)

// Kinds and bounds, by the document.
const (
	oPut   = 1
	oAdd   = 2
	oCut   = 3
	oGet   = 4
	oRange = 5
	oCount = 6
	oMin   = 7
	oMax   = 8

	maxThreads = 6
)

// The ends of int.
const (
	low  = math.MinInt
	high = math.MaxInt
)

// noKinds is numbers of no operation: one below, one above, the ends of int, and
// numbers whose lower 8, 16, 32 bits alone are one's.
var noKinds = []int{0, -1, -2, -8, 9, 10, 77, 1<<8 + 1, 1<<16 + 2, 1<<32 + 1, 1<<32 + 3, -1<<32 + 8, low, low + 1, low + 4, high - 1, high}

// noThreads is numbers of no thread, alike.
var noThreads = []int{-1, -2, -6, maxThreads, maxThreads + 1, 9, 60, 1 << 8, 1<<8 + 1, 1 << 16, 1 << 32, 1<<32 + 5, -1 << 32, low, low + 1, low + 5, high - 1, high}

// pairs is pairs by hand: key, value, key, value ..
func pairs(n ...int) []api.Pair {
	var l []api.Pair
	for i := 0; i < len(n); i += 2 {
		l = append(l, api.Pair{Key: n[i], Val: n[i+1]})
	}
	return l
}

// Operations, by hand. Those that need no value have one all the same, which
// would tell on who heeds it.
func put(key, val int) api.Op  { return api.Op{Kind: oPut, Key: key, Hi: -key, Val: val} }
func add(key, val int) api.Op  { return api.Op{Kind: oAdd, Key: key, Hi: -key, Val: val} }
func cut(key int) api.Op       { return api.Op{Kind: oCut, Key: key, Hi: 666, Val: 666} }
func get(key int) api.Op       { return api.Op{Kind: oGet, Key: key, Hi: 666, Val: 666} }
func within(lo, hi int) api.Op { return api.Op{Kind: oRange, Key: lo, Hi: hi, Val: 666} }
func count(lo, hi int) api.Op  { return api.Op{Kind: oCount, Key: lo, Hi: hi, Val: 666} }
func least() api.Op            { return api.Op{Kind: oMin, Key: 666, Hi: 555, Val: 666} }
func most() api.Op             { return api.Op{Kind: oMax, Key: 555, Hi: 666, Val: 666} }

// Answers, by hand.
func was(key, val int) api.Ans { return api.Ans{Ok: true, Pair: api.Pair{Key: key, Val: val}} }
func all(n ...int) api.Ans     { return api.Ans{N: len(n) / 2, Pairs: pairs(n...)} }
func many(n int) api.Ans       { return api.Ans{N: n} }

var none = api.Ans{}

// full is what a call tells that was refused.
var full = api.Ans{Err: 2}

// refusals is every other way to tell that a call was refused, whatever is told
// beside it.
var refusals = []api.Ans{
	full, {Err: 1}, {Err: 3}, {Err: 4}, {Err: 5}, {Err: -1}, {Err: 77}, {Err: 1 << 8}, {Err: 1 << 32}, {Err: low}, {Err: high},
	{Err: 2, Ok: true, Pair: api.Pair{Key: 1, Val: 5}}, {Err: 1, N: 1, Pairs: pairs(1, 5)},
}

// alikeAns says whether both answers are the same.
func alikeAns(a, b api.Ans) bool {
	return a.Err == b.Err && a.Ok == b.Ok && a.Pair == b.Pair && a.N == b.N && slices.Equal(a.Pairs, b.Pairs)
}

// keyed is what each key has: a map without the packages.
type keyed map[int]int

// keyedOf is what each key of these pairs has, the later one where one stands
// twice.
func keyedOf(l []api.Pair) keyed {
	k := keyed{}
	for _, p := range l {
		k[p.Key] = p.Val
	}
	return k
}

// of is the pairs by key, from lo to hi.
func (k keyed) of(lo, hi int) []api.Pair {
	var keys []int
	for key := range k {
		if lo <= key && key <= hi {
			keys = append(keys, key)
		}
	}
	slices.Sort(keys)
	var l []api.Pair
	for _, key := range keys {
		l = append(l, api.Pair{Key: key, Val: k[key]})
	}
	return l
}

// do does an operation that may be, by the words of the document.
func (k keyed) do(op api.Op) api.Ans {
	l, in := k.of(low, high), k.of(op.Key, op.Hi)
	val, there := k[op.Key]
	switch {
	case op.Kind == oRange:
		return api.Ans{N: len(in), Pairs: in}
	case op.Kind == oCount:
		return many(len(in))
	case op.Kind >= oMin && len(l) == 0:
		return none
	case op.Kind == oMin:
		return api.Ans{Ok: true, Pair: l[0]}
	case op.Kind == oMax:
		return api.Ans{Ok: true, Pair: l[len(l)-1]}
	case op.Kind == oPut || op.Kind == oAdd && !there:
		k[op.Key] = op.Val
	case op.Kind == oCut:
		delete(k, op.Key)
	}
	if !there {
		return none
	}
	return was(op.Key, val)
}

// calling is a call that has not returned.
type calling struct {
	number int
	op     api.Op
	told   *api.Ans // nil: it has not taken effect
}

// machine is a witness, what it must tell by the sentences, and the history of
// the calls and returns. Each call on it is checked, and all that it tells
// afterwards.
type machine struct {
	t     *testing.T
	w     *Witness
	begin []api.Pair // by key
	has   keyed
	at    map[int]*calling
	calls int
	order []int
	h     []api.Event
	amiss bool // was a return answered with no
	quick bool // don't look at all of it after each call
}

// machineOf is a machine of these pairs, which have been looked at.
func machineOf(t *testing.T, begin ...api.Pair) *machine {
	t.Helper()
	has := keyedOf(begin)
	m := &machine{t: t, w: New(begin...), begin: has.of(low, high), has: has, at: map[int]*calling{}}
	m.look()
	return m
}

// thread says whether there is such a thread.
func thread(n int) bool { return n >= 0 && n < maxThreads }

// call calls, and is whether it might.
func (m *machine) call(n int, op api.Op) bool {
	m.t.Helper()
	want := thread(n) && m.at[n] == nil && op.Kind >= oPut && op.Kind <= oMax
	if want {
		m.at[n] = &calling{m.calls, op, nil}
		m.calls++
		m.h = append(m.h, api.Event{Thread: n, Op: op})
	}
	m.hold(m.w.Call(n, op), want, "Call", n, op)
	return want
}

// took lets the call of a thread take effect, and is whether it might.
func (m *machine) took(n int) bool {
	m.t.Helper()
	c := m.at[n]
	want := c != nil && c.told == nil
	if want {
		told := m.has.do(c.op)
		c.told = &told
		m.order = append(m.order, c.number)
	}
	m.hold(m.w.Took(n), want, "Took", n, nil)
	return want
}

// ret lets the call of a thread return, and is whether it might so.
func (m *machine) ret(n int, a api.Ans) bool {
	m.t.Helper()
	c, want := m.at[n], false
	if c != nil {
		want = a.Err != 0
		if c.told != nil {
			want = alikeAns(*c.told, a)
		}
		delete(m.at, n)
		m.h = append(m.h, api.Event{Thread: n, Ret: true, Op: c.op, Ans: a})
		m.amiss = m.amiss || !want
	}
	// With more behind the end of its list, all of which must stay.
	whole := slices.Concat(a.Pairs, pairs(1, 5, low, 666))
	handed := a
	handed.Pairs = whole[:len(a.Pairs)]
	m.hold(m.w.Ret(n, handed), want, "Ret", n, a)
	if !slices.Equal(whole, slices.Concat(a.Pairs, pairs(1, 5, low, 666))) {
		m.t.Errorf("Ret(%d, %v): what was handed in is %v now", n, a, whole)
	}
	spoil(whole)
	return want
}

// hold holds an answer against what it must be, and looks at all the rest.
func (m *machine) hold(got, want bool, what string, n int, with any) {
	m.t.Helper()
	if got != want {
		m.t.Errorf("%s(%d, %v) tells %v; the calls and returns with it: %v; order %v", what, n, with, got, m.h, m.order)
	}
	if !m.quick {
		m.look()
	}
}

// look looks at all that the witness tells.
func (m *machine) look() {
	m.t.Helper()
	for range 2 {
		order, again := m.w.Order(), m.w.Order()
		if !slices.Equal(order, m.order) {
			m.t.Fatalf("Order tells %v, not %v", order, m.order)
		}
		spoilInts(order)
		l, more := m.w.Pairs(), m.w.Pairs()
		if want := m.has.of(low, high); !slices.Equal(l, want) {
			m.t.Fatalf("Pairs tells %v, not %v", l, want)
		}
		spoil(l)
		if !slices.Equal(again, m.order) || !slices.Equal(more, m.has.of(low, high)) {
			m.t.Fatal("two answers share memory", again, more)
		}
		spoilInts(again)
		spoil(more)
	}
	for n := range maxThreads {
		if busy := m.w.Busy(n); busy != (m.at[n] != nil) {
			m.t.Fatalf("Busy(%d) tells %v", n, busy)
		}
	}
	for _, n := range noThreads {
		if m.w.Busy(n) {
			m.t.Fatalf("Busy(%d) tells yes", n)
		}
	}
}

// right checks that the order is right of the history, if no return was answered
// with no, and is not, if one was.
func (m *machine) right() {
	m.t.Helper()
	l := m.w.Order()
	has, ok := order.Ends(m.begin, m.h, l)
	if ok == m.amiss || order.Right(m.begin, m.h, l) != ok {
		m.t.Errorf("of %v, from %v, order %v: right is %v", m.h, m.begin, l, ok)
	}
	if ok && !slices.Equal(has, m.w.Pairs()) {
		m.t.Errorf("of %v, from %v, order %v: Pairs tells %v, not %v", m.h, m.begin, l, m.w.Pairs(), has)
	}
	for i, c := range past.Calls(m.h) {
		if w := m.at[c.Thread]; c.To < 0 && (w == nil || w.number != i) {
			m.t.Errorf("of %v: call %d is not what thread %d is at", m.h, i, c.Thread)
		}
	}
}

// spoil writes over the pairs, and over what lies behind them.
func spoil(l []api.Pair) {
	l = l[:cap(l)]
	for i := range l {
		l[i] = api.Pair{Key: -777, Val: -778}
	}
}

func spoilInts(l []int) {
	l = l[:cap(l)]
	for i := range l {
		l[i] = -777
	}
}

// yes, no check one answer of a machine, which is held against the sentences
// besides.
func yes(t *testing.T, ok bool) {
	t.Helper()
	if !ok {
		t.Error("no")
	}
}

func no(t *testing.T, ok bool) {
	t.Helper()
	if ok {
		t.Error("yes")
	}
}

// rolls is numbers below n, one after the other, always the same ones.
func rolls() func(n int) int {
	x := uint64(21)
	return func(n int) int {
		x = x*6364136223846793005 + 1442695040888963407
		return int(x>>33) % n
	}
}

// upTo is the numbers below n, in order.
func upTo(n int) []int {
	l := make([]int, n)
	for i := range l {
		l[i] = i
	}
	return l
}

// turns calls f with each order of the list.
func turns(l []int, f func(l []int)) {
	var grow func(l, left []int)
	grow = func(l, left []int) {
		if len(left) == 0 {
			f(l)
		}
		for i, at := range left {
			grow(append(slices.Clone(l), at), slices.Delete(slices.Clone(left), i, i+1))
		}
	}
	grow(nil, l)
}

// telling is an operation, and what it is told.
type telling struct {
	op  api.Op
	ans api.Ans
}

// begun is what each of tellings begins with.
func begun() []api.Pair { return pairs(1, 5, 3, 6, 4, 7) }

// tellings is some of each kind of operation, and what each is told of begun.
func tellings() []telling {
	return []telling{
		{put(1, 9), was(1, 5)}, {put(2, 9), none}, {put(1, 5), was(1, 5)}, {add(3, 9), was(3, 6)}, {add(2, 9), none}, {cut(4), was(4, 7)}, {cut(5), none},
		{get(3), was(3, 6)}, {get(0), none}, {within(1, 3), all(1, 5, 3, 6)}, {within(4, 4), all(4, 7)}, {within(5, 9), none}, {within(4, 1), none},
		{within(low, high), all(1, 5, 3, 6, 4, 7)}, {count(2, 9), many(2)}, {count(9, 2), none}, {least(), was(1, 5)}, {most(), was(4, 7)},
	}
}

// bent is the answer, in each of its fields but Err another one.
func bent(a api.Ans) []api.Ans {
	var l []api.Ans
	turn := func(change func(b *api.Ans)) {
		b := a
		b.Pairs = slices.Clone(a.Pairs)
		change(&b)
		l = append(l, b)
	}
	turn(func(b *api.Ans) { b.Ok = !b.Ok })
	for _, by := range []int{1, -1, 1 << 32, low} {
		turn(func(b *api.Ans) { b.Pair.Key += by })
		turn(func(b *api.Ans) { b.Pair.Val += by })
		turn(func(b *api.Ans) { b.N += by })
		for i := range a.Pairs {
			turn(func(b *api.Ans) { b.Pairs[i].Key += by })
			turn(func(b *api.Ans) { b.Pairs[i].Val += by })
		}
	}
	turn(func(b *api.Ans) { b.Pair.Key, b.Pair.Val = b.Pair.Val, b.Pair.Key+1 })
	turn(func(b *api.Ans) { b.Pairs = append(b.Pairs, api.Pair{}) })
	turn(func(b *api.Ans) { b.Pairs = append(b.Pairs, pairs(9, 9)...) })
	if len(a.Pairs) > 0 {
		turn(func(b *api.Ans) { b.Pairs = nil })
		turn(func(b *api.Ans) { b.Pairs = b.Pairs[1:] })
		turn(func(b *api.Ans) { b.Pairs = b.Pairs[:len(b.Pairs)-1] })
	}
	if len(a.Pairs) > 1 {
		turn(func(b *api.Ans) { slices.Reverse(b.Pairs) })
	}
	return l
}

// TestNumbers: the numbers are the document's.
func TestNumbers(t *testing.T) {
	kinds := []int{api.OPut, api.OAdd, api.OCut, api.OGet, api.ORange, api.OCount, api.OMin, api.OMax}
	if !slices.Equal(kinds, upTo(oMax + 1)[1:]) || api.OK != 0 || api.MaxThreads != maxThreads {
		t.Error(kinds, api.OK, api.MaxThreads)
	}
}

// TestExample: the chapter's example.
func TestExample(t *testing.T) {
	w := New()
	if !w.Call(0, api.Op{Kind: api.OGet, Key: 1}) || !w.Took(0) || !w.Ret(0, api.Ans{}) {
		t.Error("not yes, yes, yes")
	}
}

// TestBegin: P21.1: New of none, of some, handed in parts, in any order, as
// nothing, and with keys that stand twice: the later one.
func TestBegin(t *testing.T) {
	for _, x := range []struct{ l, want []api.Pair }{
		{nil, nil}, {[]api.Pair{}, nil}, {pairs(1, 5)[:0], nil}, {pairs(1, 5), pairs(1, 5)}, {pairs(0, 0), pairs(0, 0)},
		{pairs(1, 5, 2, 6), pairs(1, 5, 2, 6)}, {pairs(2, 6, 1, 5), pairs(1, 5, 2, 6)}, {pairs(1, 5, 1, 6), pairs(1, 6)}, {pairs(1, 6, 1, 5), pairs(1, 5)},
		{pairs(1, 5, 1, 5), pairs(1, 5)}, {pairs(3, 1, 1, 2, 3, 9, 2, 4, 1, 7), pairs(1, 7, 2, 4, 3, 9)}, {pairs(high, low, 0, 0, low, high), pairs(low, high, 0, 0, high, low)},
	} {
		for range 2 {
			m := machineOf(t, x.l...)
			if !slices.Equal(m.w.Pairs(), x.want) || len(m.w.Order()) != 0 {
				t.Errorf("New(%v): %v, order %v", x.l, m.w.Pairs(), m.w.Order())
			}
			yes(t, m.call(2, within(low, high)) && m.took(2) && m.ret(2, api.Ans{N: len(x.want), Pairs: x.want}))
			yes(t, m.call(2, put(1, 8)) && m.took(2))
			m.right()
		}
	}
	a, b, l := api.Pair{Key: 2, Val: 6}, api.Pair{Key: 1, Val: 5}, pairs(3, 7, 2, 8)
	for _, w := range []*Witness{New(a, b), New(b, a), New(append(pairs(2, 6), b)...), New(a, b, a, b)} {
		if !slices.Equal(w.Pairs(), pairs(1, 5, 2, 6)) {
			t.Error(w.Pairs())
		}
	}
	if w := New(append([]api.Pair{a, b}, l...)...); !slices.Equal(w.Pairs(), pairs(1, 5, 2, 8, 3, 7)) {
		t.Error(w.Pairs())
	}
	if w := New(); w == nil || len(w.Pairs()) != 0 || !w.Call(0, get(1)) {
		t.Error("New of nothing is no witness")
	}
}

// TestBeginNotKept: P21.1, R2: what New is handed is neither changed nor kept,
// nor is what lies behind its end.
func TestBeginNotKept(t *testing.T) {
	for _, l := range [][]api.Pair{nil, pairs(1, 5), pairs(1, 5, 2, 6), pairs(2, 6, 1, 5, 2, 7)} {
		whole := slices.Concat(l, pairs(0, 666, 1, 667))
		w, want := New(whole[:len(l)]...), keyedOf(l).of(low, high)
		if !slices.Equal(whole, slices.Concat(l, pairs(0, 666, 1, 667))) {
			t.Errorf("New(%v): what was handed in is %v now", l, whole)
		}
		spoil(whole)
		if !slices.Equal(w.Pairs(), want) {
			t.Errorf("New(%v): %v, when what was handed in has changed", l, w.Pairs())
		}
		if !w.Call(0, put(1, 9)) || !w.Took(0) || !w.Call(1, cut(2)) || !w.Took(1) {
			t.Error("no")
		}
		for _, p := range whole {
			if p.Key != -777 || p.Val != -778 {
				t.Errorf("New(%v): shares memory with what was handed in: %v", l, whole)
			}
		}
	}
}

// TestCallThreads: P21.1: Call of threads 0 to MaxThreads - 1: yes; of no thread:
// no, and nothing is done.
func TestCallThreads(t *testing.T) {
	m := machineOf(t, pairs(1, 5)...)
	for _, n := range noThreads {
		for _, op := range []api.Op{get(1), put(1, 7), {}} {
			no(t, m.call(n, op))
			no(t, m.took(n))
			no(t, m.ret(n, none))
			no(t, m.ret(n, full))
		}
	}
	for n := range maxThreads {
		yes(t, m.call(n, put(n, n)))
		for _, other := range noThreads {
			no(t, m.call(other, get(1)))
			no(t, m.took(other))
			no(t, m.ret(other, full))
		}
	}
	for n := maxThreads - 1; n >= 0; n-- {
		yes(t, m.took(n))
	}
	if !slices.Equal(m.w.Order(), []int{5, 4, 3, 2, 1, 0}) {
		t.Error(m.w.Order())
	}
	for n := range maxThreads {
		told := none
		if n == 1 {
			told = was(1, 5)
		}
		yes(t, m.ret(n, told))
		m.right()
	}
	if !slices.Equal(m.w.Pairs(), pairs(0, 0, 1, 1, 2, 2, 3, 3, 4, 4, 5, 5)) {
		t.Error(m.w.Pairs())
	}
}

// TestCallBusy: P21.1: Call of a thread that is at work: no, and its call stays
// what it was, whether it took effect or not.
func TestCallBusy(t *testing.T) {
	for n := range maxThreads {
		for _, other := range []api.Op{get(1), put(1, 8), cut(1), put(2, 8), {}, {Kind: 9}} {
			m := machineOf(t, pairs(1, 5)...)
			yes(t, m.call(n, put(1, 7)))
			no(t, m.call(n, other))
			yes(t, m.took(n))
			no(t, m.call(n, other))
			no(t, m.took(n))
			yes(t, m.call((n+1)%maxThreads, get(1)))
			yes(t, m.ret(n, was(1, 5)))
			yes(t, m.took((n+1)%maxThreads))
			yes(t, m.call(n, get(2)))
			yes(t, m.took(n))
			yes(t, m.ret((n+1)%maxThreads, was(1, 7)))
			m.right()
			if !slices.Equal(m.w.Order(), []int{0, 1, 2}) {
				t.Error(m.w.Order())
			}
		}
	}
}

// TestCallOps: P21.1: Call with each kind of operation: yes; with what may not
// be: no, nothing is done, and the thread is not at work.
func TestCallOps(t *testing.T) {
	m := machineOf(t, pairs(1, 5)...)
	for n := range maxThreads {
		for _, kind := range noKinds {
			for _, key := range []int{0, 1, low, high} {
				no(t, m.call(n, api.Op{Kind: kind, Key: key, Hi: high, Val: 7}))
			}
			no(t, m.took(n))
			no(t, m.ret(n, full))
		}
		yes(t, m.call(n, get(n)))
		no(t, m.call(n, api.Op{}))
		yes(t, m.took(n))
		yes(t, m.ret(n, m.told(get(n))))
	}
	for kind := oPut; kind <= oMax; kind++ {
		for _, key := range []int{low, -1, 0, 1, high} {
			op := api.Op{Kind: kind, Key: key, Hi: key, Val: high}
			told := m.told(op)
			yes(t, m.call(kind%maxThreads, op))
			yes(t, m.took(kind%maxThreads))
			yes(t, m.ret(kind%maxThreads, told))
		}
	}
	m.right()
	if n := maxThreads + 8*5; !slices.Equal(m.w.Order(), upTo(n)) {
		t.Error(m.w.Order())
	}
}

// told is what the model would tell, by the sentences.
func (m *machine) told(op api.Op) api.Ans {
	k := keyed{}
	for key, val := range m.has {
		k[key] = val
	}
	return k.do(op)
}

// TestTook: P21.1: Took of a thread that is not at work, before its first call
// and after each: no; of one whose call took effect: no. The model does nothing.
func TestTook(t *testing.T) {
	for n := range maxThreads {
		m := machineOf(t, pairs(1, 5)...)
		no(t, m.took(n))
		for i := range 4 {
			yes(t, m.call(n, put(1, 10+i)))
			yes(t, m.took(n))
			for range 3 {
				no(t, m.took(n))
			}
			// What is put there by another one stays.
			other := (n + 1 + i) % maxThreads
			if other == n {
				other = (n + 1) % maxThreads
			}
			no(t, m.took(other))
			yes(t, m.call(other, cut(1)))
			yes(t, m.took(other))
			no(t, m.took(n))
			no(t, m.took(other))
			if len(m.w.Pairs()) != 0 {
				t.Error(m.w.Pairs())
			}
			told := none
			if i == 0 {
				told = was(1, 5)
			}
			yes(t, m.ret(n, told))
			no(t, m.took(n))
			yes(t, m.ret(other, was(1, 10+i)))
			no(t, m.took(n))
			no(t, m.took(other))
			m.right()
		}
		if !slices.Equal(m.w.Order(), upTo(8)) {
			t.Error(m.w.Order())
		}
	}
}

// TestRetIdle: P21.1: Ret of a thread that is not at work: no, whatever it tells.
func TestRetIdle(t *testing.T) {
	for n := range maxThreads {
		m := machineOf(t, pairs(1, 5)...)
		answers := append([]api.Ans{none, was(1, 5), many(1), all(1, 5)}, refusals...)
		for i := range 3 {
			for _, ans := range answers {
				no(t, m.ret(n, ans))
			}
			yes(t, m.call(n, get(1)))
			for _, ans := range answers {
				no(t, m.ret((n+1)%maxThreads, ans))
			}
			if i != 1 {
				yes(t, m.took(n))
				yes(t, m.ret(n, was(1, 5)))
			} else {
				yes(t, m.ret(n, full))
			}
			m.right()
		}
		for _, ans := range answers {
			no(t, m.ret(n, ans))
		}
		if !slices.Equal(m.w.Order(), []int{0, 2}) {
			t.Error(m.w.Order())
		}
	}
}

// TestRetEachField: P21.1: what took effect returns with what the model told
// (yes), or with any field of that turned (no): then, too, the thread is at work
// no more, and its call took effect all the same.
func TestRetEachField(t *testing.T) {
	for i, x := range tellings() {
		n := i % maxThreads
		after := func(m *machine) {
			has := m.w.Pairs()
			no(t, m.took(n))
			no(t, m.ret(n, x.ans))
			yes(t, m.call(n, within(low, high)))
			yes(t, m.took(n))
			yes(t, m.ret(n, api.Ans{N: len(has), Pairs: has}))
			m.right()
			if !slices.Equal(m.w.Order(), []int{0, 1}) {
				t.Error(m.w.Order())
			}
		}
		m := machineOf(t, begun()...)
		yes(t, m.call(n, x.op))
		yes(t, m.took(n))
		yes(t, m.ret(n, x.ans))
		m.right()
		after(m)
		wrong := bent(x.ans)
		for _, ans := range refusals {
			wrong = append(wrong, ans)
			other := x.ans
			other.Err = ans.Err
			wrong = append(wrong, other)
		}
		for _, ans := range wrong {
			m = machineOf(t, begun()...)
			yes(t, m.call(n, x.op))
			yes(t, m.took(n))
			no(t, m.ret(n, ans))
			m.right()
			after(m)
		}
	}
}

// TestRetOfNothing: P21.1: what did not take effect returns with an answer whose
// Err is OK (no) or another (yes), whatever else it tells: it has done nothing,
// and is in no order.
func TestRetOfNothing(t *testing.T) {
	for i, x := range tellings() {
		n := i % maxThreads
		fine := append([]api.Ans{none, x.ans}, bent(x.ans)...)
		for _, ans := range append(fine, refusals...) {
			m := machineOf(t, begun()...)
			yes(t, m.call(n, x.op))
			if ok := m.ret(n, ans); ok != (ans.Err != 0) {
				t.Error(ans, ok)
			}
			m.right()
			no(t, m.took(n))
			no(t, m.ret(n, full))
			if !slices.Equal(m.w.Pairs(), begun()) || len(m.w.Order()) != 0 {
				t.Error(m.w.Pairs(), m.w.Order())
			}
			// Nothing of it is left to the next one.
			yes(t, m.call(n, x.op))
			no(t, m.ret(n, x.ans))
			yes(t, m.call(n, x.op))
			yes(t, m.took(n))
			yes(t, m.ret(n, x.ans))
			if !slices.Equal(m.w.Order(), []int{2}) {
				t.Error(m.w.Order())
			}
			m.right()
		}
	}
}

// TestNothingLeft: P21.1: of a call that is over nothing is left: not that it took
// effect, not what it was told.
func TestNothingLeft(t *testing.T) {
	m := machineOf(t, pairs(1, 5)...)
	yes(t, m.call(0, get(1)) && m.took(0) && m.ret(0, was(1, 5)))
	yes(t, m.call(0, get(1)) && m.ret(0, full))
	yes(t, m.call(0, get(1)))
	no(t, m.ret(0, was(1, 5)))
	yes(t, m.call(0, get(2)) && m.took(0))
	no(t, m.ret(0, was(1, 5)))
	yes(t, m.call(0, put(1, 6)) && m.took(0) && m.ret(0, was(1, 5)))
	yes(t, m.call(0, put(1, 6)) && m.took(0) && m.ret(0, was(1, 6)))
	if !slices.Equal(m.w.Order(), []int{0, 3, 4, 5}) {
		t.Error(m.w.Order())
	}
}

// TestAgain: P21.1: after each return of a thread at work, be the answer yes or
// no, it is at work no more, and may call again; the others are at work still.
func TestAgain(t *testing.T) {
	for n := range maxThreads {
		for _, took := range []bool{false, true} {
			for _, ans := range []api.Ans{none, was(1, 5), was(1, 6), full} {
				m := machineOf(t, pairs(1, 5)...)
				for other := range maxThreads {
					yes(t, m.call(other, get(1)))
				}
				for range 3 {
					if took {
						yes(t, m.took(n))
					}
					m.ret(n, ans)
					for other := range maxThreads {
						if m.w.Busy(other) != (other != n) {
							t.Error(n, other)
						}
					}
					yes(t, m.call(n, get(1)))
				}
			}
		}
	}
}

// TestNumbersOfCalls: P21.1: the numbers of the calls count those that were said
// yes to, whatever becomes of them, and nothing else, from 0.
func TestNumbersOfCalls(t *testing.T) {
	m := machineOf(t)
	var want []int
	for i := range 120 {
		n := i % maxThreads
		no(t, m.call(-1, get(1)))
		no(t, m.call(maxThreads, get(1)))
		no(t, m.call(n, api.Op{}))
		yes(t, m.call(n, get(i)))
		no(t, m.call(n, get(i)))
		switch i % 5 {
		case 0:
			yes(t, m.ret(n, full))
		case 1:
			no(t, m.ret(n, none))
		case 2:
			yes(t, m.took(n))
			no(t, m.ret(n, full))
			want = append(want, i)
		default:
			yes(t, m.took(n))
			yes(t, m.ret(n, none))
			want = append(want, i)
		}
		if !slices.Equal(m.w.Order(), want) {
			t.Fatal(m.w.Order(), want)
		}
	}
}

// TestOrder: P21.2: the order is that in which calls took effect, neither that in
// which they were called nor that in which they returned.
func TestOrder(t *testing.T) {
	const threads = 4
	turns(upTo(threads), func(called []int) {
		turns(upTo(threads), func(took []int) {
			m := machineOf(t, pairs(9, 9)...)
			m.quick = true
			number := map[int]int{}
			for i, n := range called {
				yes(t, m.call(n, put(9, n)))
				number[n] = i
			}
			var want []int
			told := map[int]api.Ans{}
			last := 9
			for _, n := range took {
				yes(t, m.took(n))
				told[n], last = was(9, last), n
				want = append(want, number[n])
				if !slices.Equal(m.w.Order(), want) || !slices.Equal(m.w.Pairs(), pairs(9, n)) {
					t.Fatal(m.w.Order(), want, m.w.Pairs())
				}
			}
			for i := range threads {
				n := called[(i*3+took[0])%threads]
				yes(t, m.ret(n, told[n]))
				if !slices.Equal(m.w.Order(), want) {
					t.Fatal(m.w.Order(), want)
				}
			}
			m.look()
			m.right()
		})
	})
}

// TestOrderOfReturns: P21.2: the same, in each order of returns.
func TestOrderOfReturns(t *testing.T) {
	turns(upTo(maxThreads), func(returned []int) {
		m := machineOf(t)
		m.quick = true
		took := []int{3, 0, 5, 1, 4, 2}
		for n := range maxThreads {
			yes(t, m.call(n, add(1, n)))
		}
		for _, n := range took {
			yes(t, m.took(n))
		}
		for _, n := range returned {
			told := was(1, 3)
			if n == 3 {
				told = none
			}
			yes(t, m.ret(n, told))
		}
		if !slices.Equal(m.w.Order(), took) {
			t.Fatal(m.w.Order())
		}
		m.look()
		m.right()
	})
}

// TestAtOnce: P21.1, P21.2: a call is told what was so when it took effect, not
// when it was called or returns; Pairs are those of the model right after Took.
func TestAtOnce(t *testing.T) {
	m := machineOf(t, pairs(1, 5, 2, 6)...)
	yes(t, m.call(0, within(0, 9)) && m.call(1, put(1, 7)) && m.call(2, cut(2)) && m.call(3, within(0, 9)) && m.call(4, get(1)) && m.call(5, least()))
	if !slices.Equal(m.w.Pairs(), pairs(1, 5, 2, 6)) || len(m.w.Order()) != 0 {
		t.Error(m.w.Pairs(), m.w.Order())
	}
	yes(t, m.took(0))
	if !slices.Equal(m.w.Pairs(), pairs(1, 5, 2, 6)) {
		t.Error(m.w.Pairs())
	}
	yes(t, m.took(1))
	if !slices.Equal(m.w.Pairs(), pairs(1, 7, 2, 6)) {
		t.Error(m.w.Pairs())
	}
	yes(t, m.took(4) && m.took(2))
	if !slices.Equal(m.w.Pairs(), pairs(1, 7)) {
		t.Error(m.w.Pairs())
	}
	yes(t, m.took(3))
	yes(t, m.ret(4, was(1, 7)) && m.call(4, cut(1)) && m.took(4) && m.took(5))
	if len(m.w.Pairs()) != 0 || !slices.Equal(m.w.Order(), []int{0, 1, 4, 2, 3, 6, 5}) {
		t.Error(m.w.Pairs(), m.w.Order())
	}
	yes(t, m.ret(5, none) && m.ret(3, all(1, 7)) && m.ret(2, was(2, 6)) && m.ret(0, all(1, 5, 2, 6)) && m.ret(1, was(1, 5)))
	m.right()
	yes(t, m.ret(4, was(1, 7)))
	m.right()
}

// TestNoPairsOfAnyKind: R2: nil and empty lists are one, in an answer.
func TestNoPairsOfAnyKind(t *testing.T) {
	for _, l := range [][]api.Pair{nil, {}, pairs(1, 5)[:0]} {
		for _, op := range []api.Op{get(2), within(2, 9), put(2, 2), cut(2), count(2, 9)} {
			w := New(pairs(1, 5)...)
			if !w.Call(0, op) || !w.Took(0) || !w.Ret(0, api.Ans{Pairs: l}) {
				t.Error("no", op, l == nil)
			}
		}
	}
}

// TestMemory: R2: what is told is new memory each time, also where more takes
// effect afterwards.
func TestMemory(t *testing.T) {
	w := New(pairs(1, 5)...)
	var orders [][]int
	var lists [][]api.Pair
	for i := range 50 {
		n := i % maxThreads
		if !w.Call(n, put(1, i)) || !w.Took(n) {
			t.Fatal("no")
		}
		w.Ret(n, full)
		orders, lists = append(orders, w.Order(), w.Order()), append(lists, w.Pairs(), w.Pairs())
	}
	for i := range orders {
		if !slices.Equal(orders[i], upTo(i/2+1)) || !slices.Equal(lists[i], pairs(1, i/2)) {
			t.Fatal(i, orders[i], lists[i])
		}
		spoilInts(orders[i])
		spoil(lists[i])
	}
	if !slices.Equal(w.Order(), upTo(50)) || !slices.Equal(w.Pairs(), pairs(1, 49)) {
		t.Error(w.Order(), w.Pairs())
	}
}

// TestTwo: R6: two witnesses side by side have nothing to do with one another.
func TestTwo(t *testing.T) {
	roll := rolls()
	a, b := machineOf(t, pairs(1, 5)...), machineOf(t, pairs(1, 6, 2, 7)...)
	begin := pairs(1, 5)
	c, d := machineOf(t, begin...), machineOf(t, begin...)
	for range 3000 {
		m := []*machine{a, b, c, d}[roll(4)]
		m.some(roll, 30)
		for _, other := range []*machine{a, b, c, d} {
			other.look()
		}
	}
	for _, m := range []*machine{a, b, c, d} {
		m.right()
	}
}

// TestNil: a nil witness tells zero values.
func TestNil(t *testing.T) {
	var w *Witness
	for _, n := range append(upTo(maxThreads), noThreads...) {
		for _, op := range []api.Op{get(1), put(1, 5), {}, {Kind: 9}} {
			if w.Call(n, op) || w.Busy(n) {
				t.Error(n, op)
			}
		}
		for _, ans := range append([]api.Ans{none, was(1, 5)}, refusals...) {
			if w.Took(n) || w.Ret(n, ans) {
				t.Error(n, ans)
			}
		}
	}
	if w.Order() != nil || w.Pairs() != nil {
		t.Error(w.Order(), w.Pairs())
	}
}

// TestNotNew: R3: a witness that New did not make is one of no pairs.
func TestNotNew(t *testing.T) {
	m := &machine{t: t, w: new(Witness), has: keyed{}, at: map[int]*calling{}}
	m.look()
	no(t, m.took(0))
	no(t, m.ret(0, full))
	yes(t, m.call(0, get(1)) && m.took(0) && m.ret(0, none))
	yes(t, m.call(0, put(1, 5)) && m.took(0) && m.ret(0, none))
	yes(t, m.call(5, most()) && m.took(5) && m.ret(5, was(1, 5)))
	m.right()
}

// rolledOp is some operation on few keys.
func rolledOp(roll func(int) int) api.Op {
	return api.Op{Kind: oPut + roll(oMax), Key: roll(4), Hi: roll(5), Val: roll(3)}
}

// some does something with the witness: mostly what may be, now and then (once
// in so many times, 0: never) what may not.
func (m *machine) some(roll func(int) int, in int) {
	m.t.Helper()
	n := roll(maxThreads)
	if in > 0 && roll(in) == 0 {
		m.odd(n, roll)
		return
	}
	c := m.at[n]
	switch {
	case c == nil:
		m.call(n, rolledOp(roll))
	case c.told == nil && roll(8) > 0:
		m.took(n)
	case c.told == nil:
		m.ret(n, refusals[roll(len(refusals))])
	case roll(3) > 0:
		m.ret(n, *c.told)
	}
}

// odd does what may not be and changes nothing.
func (m *machine) odd(n int, roll func(int) int) {
	m.t.Helper()
	c, other := m.at[n], noThreads[roll(len(noThreads))]
	switch {
	case roll(4) == 0:
		no(m.t, m.call(other, rolledOp(roll)) || m.took(other) || m.ret(other, full))
	case c == nil:
		no(m.t, m.took(n) || m.ret(n, none) || m.ret(n, full) || m.call(n, api.Op{Kind: noKinds[roll(len(noKinds))]}))
	case c.told != nil:
		no(m.t, m.took(n) || m.call(n, rolledOp(roll)))
	default:
		no(m.t, m.call(n, rolledOp(roll)))
	}
}

// TestRolled: P21.3: over mixed runs of several threads the order is right of the
// history at each moment, with calls still at work, ones that took effect and did
// not return, and ones that were refused.
func TestRolled(t *testing.T) {
	roll := rolls()
	open, pending, refused := 0, 0, 0
	for i := range 300 {
		m := machineOf(t, []api.Pair{{Key: 0, Val: 1}, {Key: 2, Val: i}}[i%3%2:]...)
		for range roll(120) {
			m.some(roll, 9)
			m.right()
		}
		for _, c := range m.at {
			if c.told == nil {
				open++
			} else {
				pending++
			}
		}
		for _, e := range m.h {
			if e.Ret && e.Ans.Err != 0 {
				refused++
			}
		}
	}
	if open < 300 || pending < 300 || refused < 300 {
		t.Error("only so many at work at the end, that took effect and did not return, refused:", open, pending, refused)
	}
}

// TestRolledAmiss: P21.1, P21.3: with a return that is answered with no the order
// is right no more, and the witness goes on.
func TestRolledAmiss(t *testing.T) {
	roll := rolls()
	amiss := 0
	for i := range 600 {
		m := machineOf(t, []api.Pair{{Key: 0, Val: 1}, {Key: 2, Val: i}}...)
		for range roll(60) {
			m.some(roll, 9)
		}
		m.right()
		n := roll(maxThreads)
		switch c := m.at[n]; {
		case c == nil:
			continue
		case c.told == nil:
			no(t, m.ret(n, []api.Ans{none, was(0, 1), m.told(c.op)}[roll(3)]))
		case roll(3) == 0:
			no(t, m.ret(n, refusals[roll(len(refusals))]))
		default:
			wrong := bent(*c.told)
			no(t, m.ret(n, wrong[roll(len(wrong))]))
		}
		amiss++
		m.right()
		for range roll(30) {
			m.some(roll, 9)
			m.right()
		}
	}
	if amiss < 300 {
		t.Error("only so many were answered with no:", amiss)
	}
}

// TestEvery: P21.1 to P21.3: all rows of so many things that two threads may do.
func TestEvery(t *testing.T) {
	type thing func(m *machine, n int) bool
	things := []thing{
		func(m *machine, n int) bool { return m.call(n, put(1, 7)) },
		func(m *machine, n int) bool { return m.call(n, get(1)) },
		func(m *machine, n int) bool { return m.took(n) },
		func(m *machine, n int) bool { return m.ret(n, was(1, 5)) },
		func(m *machine, n int) bool { return m.ret(n, was(1, 7)) },
		func(m *machine, n int) bool { return m.ret(n, full) },
	}
	const rows = 5
	rights, wrongs := 0, 0
	var row [rows]int
	for {
		m := machineOf(t, pairs(1, 5)...)
		m.quick = true
		for _, at := range row {
			things[at/2](m, maxThreads-1-at%2)
		}
		m.look()
		m.right()
		if m.amiss {
			wrongs++
		} else {
			rights++
		}
		place := 0
		for place < rows && row[place] == 2*len(things)-1 {
			row[place] = 0
			place++
		}
		if place == rows {
			break
		}
		row[place]++
	}
	if rights < 1000 || wrongs < 1000 {
		t.Error("only so many are right, are not:", rights, wrongs)
	}
}

// TestWild: R3: whatever is done, the sentences tell.
func TestWild(t *testing.T) {
	roll := rolls()
	numbers := []int{low, -1, 0, 1, 5, maxThreads, 1 << 32, high}
	one := func() int { return numbers[roll(len(numbers))] }
	for range 1500 {
		var begin []api.Pair
		for range roll(4) {
			begin = append(begin, api.Pair{Key: one(), Val: one()})
		}
		m := machineOf(t, begin...)
		m.quick = true
		for range roll(60) {
			n := roll(maxThreads)
			if roll(9) == 0 {
				n = one()
			}
			ans := api.Ans{Err: api.Errno(roll(9) / 8 * one()), N: roll(5) / 4, Ok: roll(5) == 0}
			if c := m.at[n]; c != nil && c.told != nil && roll(3) > 0 {
				ans = *c.told
			}
			switch roll(3) {
			case 0:
				m.call(n, api.Op{Kind: roll(10), Key: one(), Hi: one(), Val: one()})
			case 1:
				m.took(n)
			case 2:
				m.ret(n, ans)
			}
		}
		m.look()
		m.right()
	}
}

// TestLong: P21.1, P21.2: no bound is named of how many calls there are, and of
// many all is told soon. Each third one is refused.
func TestLong(t *testing.T) {
	const n = 60000
	w := New(pairs(1, -1)...)
	var h []api.Event
	var want []int
	last := -1
	for i := range n {
		at, op, ans := i%maxThreads, put(1, i), full
		ok := w.Call(at, op)
		if i%3 > 0 {
			ok = ok && w.Took(at)
			ans, last = was(1, last), i
			want = append(want, i)
		}
		if !ok || !w.Ret(at, ans) {
			t.Fatal("no", i)
		}
		h = append(h, api.Event{Thread: at, Op: op}, api.Event{Thread: at, Ret: true, Op: op, Ans: ans})
	}
	if l := w.Order(); !slices.Equal(l, want) || !order.Right(pairs(1, -1), h, l) || !slices.Equal(w.Pairs(), pairs(1, last)) {
		t.Error("not right", len(l), w.Pairs())
	}
}
