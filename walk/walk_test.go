package walk

import (
	"maps"
	"math"
	"slices"
	"testing"

	"osier/api"
	"osier/arena"
	"osier/look"
	"osier/mix"
	"osier/node"
)

// above is the place of the pair that mix has above all others.
func above(l []api.Pair) int {
	top := 0
	for i, p := range l {
		if mix.Above(p.Key, l[top].Key) {
			top = i
		}
	}
	return top
}

// makeOne makes a node, and tells its number.
func makeOne(t *testing.T, a *arena.Arena, p api.Pair, left, right int) int {
	t.Helper()
	id, e := node.Make(a, p, left, right)
	if e != api.OK {
		t.Fatalf("Make(%v, %d, %d): error %d", p, left, right, e)
	}
	return id
}

// byHand makes a record, and fails where it doesn't get that number.
func byHand(t *testing.T, a *arena.Arena, want, kind int, vals ...int) {
	t.Helper()
	if id, e := a.Make(kind, vals...); id != want || e != api.OK {
		t.Fatalf("a record of kind %d: %d, %d, not %d", kind, id, e, want)
	}
}

// built is the treap of pairs whose keys rise.
func built(t *testing.T, a *arena.Arena, l []api.Pair) int {
	t.Helper()
	if len(l) == 0 {
		return 0
	}
	i := above(l)
	left := built(t, a, l[:i])
	return makeOne(t, a, l[i], left, built(t, a, l[i+1:]))
}

// treapOf is an arena that is full of the treap of those pairs: no walk needs
// any room.
func treapOf(t *testing.T, l []api.Pair) (*arena.Arena, int) {
	t.Helper()
	a := arena.New(len(l))
	return a, built(t, a, l)
}

// pairs is so many pairs: keys rise by a number, values fall and come to 0.
func pairs(from, by, n int) []api.Pair {
	var l []api.Pair
	for i := range n {
		l = append(l, api.Pair{Key: from + i*by, Val: 3 - i})
	}
	return l
}

// rule is numbers that go all over int, one after the other.
func rule(seed int) func() int {
	x := uint64(seed)
	return func() int {
		x += 0x9e3779b97f4a7c15
		return int((x ^ x>>29) * 0xbf58476d1ce4e5b9)
	}
}

// mixed is up to so many pairs, with keys that lie the closer the more they are
// shifted.
func mixed(seed, n, shift int) []api.Pair {
	next := rule(seed)
	m := map[int]int{}
	for range n {
		m[next()>>shift] = next()
	}
	var l []api.Pair
	for _, key := range slices.Sorted(maps.Keys(m)) {
		l = append(l, api.Pair{Key: key, Val: m[key]})
	}
	return l
}

// ends is pairs at the ends and in the middle of int.
func ends() []api.Pair {
	return []api.Pair{
		{Key: math.MinInt, Val: math.MaxInt}, {Key: math.MinInt + 1, Val: math.MinInt},
		{Key: -1, Val: 1}, {Key: 0, Val: 0}, {Key: 1, Val: -1},
		{Key: math.MaxInt - 1, Val: math.MinInt}, {Key: math.MaxInt, Val: math.MaxInt},
	}
}

// lists is pairs of many kinds: none, one, two, an odd and an even number, many;
// close, far, at the ends of int.
func lists() [][]api.Pair {
	var l [][]api.Pair
	for n := range 25 {
		l = append(l, pairs(-20, 3, n), mixed(n, n, 2*n))
	}
	for from := range ends() {
		for to := from; to <= len(ends()); to++ {
			l = append(l, ends()[from:to])
		}
	}
	return append(l, pairs(7, 1, 60), mixed(1, 60, 40))
}

// far is keys at the ends and in the middle of int.
var far = []int{math.MinInt, math.MinInt + 1, -1, 0, 1, 5, math.MaxInt - 1, math.MaxInt}

// keysOf is the keys of those pairs, those beside them, and far ones.
func keysOf(l []api.Pair) []int {
	keys := slices.Clone(far)
	for _, p := range l {
		keys = append(keys, p.Key-1, p.Key, p.Key+1)
	}
	slices.Sort(keys)
	return slices.Compact(keys)
}

// pick is the pairs whose keys are lo to hi.
func pick(l []api.Pair, lo, hi int) []api.Pair {
	var m []api.Pair
	for _, p := range l {
		if lo <= p.Key && p.Key <= hi {
			m = append(m, p)
		}
	}
	return m
}

// ranged fails where Range or Count tell something else.
func ranged(t *testing.T, a *arena.Arena, id, lo, hi int, want []api.Pair) {
	t.Helper()
	if got := Range(a, id, lo, hi); !slices.Equal(got, want) {
		t.Errorf("Range(%d, %d, %d): %v, not %v", id, lo, hi, got, want)
	}
	if n := Count(a, id, lo, hi); n != len(want) {
		t.Errorf("Count(%d, %d, %d): %d, not %d", id, lo, hi, n, len(want))
	}
}

// next fails where Next tells another pair than the first one of those above
// key.
func next(t *testing.T, a *arena.Arena, id, key int, l []api.Pair) {
	t.Helper()
	var want api.Pair
	there := false
	for _, p := range l {
		if p.Key > key && !there {
			want, there = p, true
		}
	}
	if p, ok := Next(a, id, key); p != want || ok != there {
		t.Errorf("Next(%d, %d) in %v: %v, %v, not %v, %v", id, key, l, p, ok, want, there)
	}
}

// told fails where the calls tell something else of a treap than those pairs, or
// where one of them isn't only a look.
func told(t *testing.T, a *arena.Arena, id int, l []api.Pair, keys []int) {
	t.Helper()
	used, room, steps := a.Used(), a.Room(), a.Steps()
	if got := All(a, id); !slices.Equal(got, l) {
		t.Errorf("All(%d): %v, not %v", id, got, l)
	}
	for _, lo := range keys {
		next(t, a, id, lo, l)
		for _, hi := range keys {
			ranged(t, a, id, lo, hi, pick(l, lo, hi))
		}
	}
	if a.Used() != used || a.Room() != room || a.Steps() != steps {
		t.Errorf("treap %d: not only looked at", id)
	}
}

// P9.1: the chapter's example: of nothing, none; also where there is no room, or
// never was any.
func TestExample(t *testing.T) {
	for _, a := range []*arena.Arena{arena.New(9), arena.New(0), {}} {
		told(t, a, 0, nil, far)
	}
}

// P9.1: treaps of many kinds: all their pairs, each range with bounds that are
// keys, are beside them, or are far ones, the lower one first or not, and the next
// pair of each of these.
func TestAllRangeCountNext(t *testing.T) {
	for _, l := range lists() {
		a, id := treapOf(t, l)
		told(t, a, id, l, keysOf(l))
	}
}

// P9.1: treaps as large as an index has them.
func TestMany(t *testing.T) {
	for _, l := range [][]api.Pair{pairs(-1000, 11, api.MaxPairs*api.MaxThreads), mixed(5, api.MaxPairs*api.MaxThreads, 0)} {
		a, id := treapOf(t, l)
		keys := slices.Clone(far)
		for i := 0; i < len(l); i += 97 {
			keys = append(keys, l[i].Key, l[i].Key+1)
		}
		told(t, a, id, l, keys)
	}
}

// P9.1: both bounds count: of one key alone there is the pair that has it; the
// bounds drawn in by one leave out both.
func TestBounds(t *testing.T) {
	for _, l := range lists() {
		a, id := treapOf(t, l)
		for i, p := range l {
			ranged(t, a, id, p.Key, p.Key, l[i:i+1])
		}
		if n := len(l); n > 1 {
			lo, hi := l[0].Key, l[n-1].Key
			ranged(t, a, id, lo, hi, l)
			ranged(t, a, id, lo+1, hi, l[1:])
			ranged(t, a, id, lo, hi-1, l[:n-1])
			ranged(t, a, id, hi, lo, nil)
		}
	}
}

// P9.1: ranges side by side are all pairs, in order, none twice.
func TestSideBySide(t *testing.T) {
	for _, l := range lists() {
		a, id := treapOf(t, l)
		for many := 1; many < 6; many++ {
			var got []api.Pair
			n, lo := 0, math.MinInt
			for i := many; i < len(l); i += many {
				hi := l[i].Key - 1
				got = append(got, Range(a, id, lo, hi)...)
				n += Count(a, id, lo, hi)
				lo = hi + 1
			}
			got = append(got, Range(a, id, lo, math.MaxInt)...)
			n += Count(a, id, lo, math.MaxInt)
			if !slices.Equal(got, l) || n != len(l) {
				t.Errorf("%v, %d at a time: %v, %d", l, many, got, n)
			}
		}
	}
}

// P9.1: the next pair says 0 and 0 and is there; there is none, and zero values
// are told.
func TestNextZero(t *testing.T) {
	a, id := treapOf(t, []api.Pair{{Key: -4, Val: 1}, {Key: 0, Val: 0}})
	for _, key := range []int{math.MinInt, -5, -4, -1, 0, 1, math.MaxInt} {
		want, there := api.Pair{}, key < 0
		if key < -4 {
			want = api.Pair{Key: -4, Val: 1}
		}
		if p, ok := Next(a, id, key); p != want || ok != there {
			t.Errorf("next of %d: %v, %v", key, p, ok)
		}
	}
}

// P9.2: from pair to pair by Next, from the lowest int on, one comes to all; but
// to a key that is the lowest int itself no Next comes: there a Range must.
func TestFromPairToPair(t *testing.T) {
	for _, l := range lists() {
		a, id := treapOf(t, l)
		got := Range(a, id, math.MinInt, math.MinInt)
		key := math.MinInt
		for p, ok := Next(a, id, key); ok && len(got) <= len(l); p, ok = Next(a, id, key) {
			got = append(got, p)
			key = p.Key
		}
		if !slices.Equal(got, l) {
			t.Errorf("%v: came to %v", l, got)
		}
	}
}

// R2: what is told is new memory: whatever the caller does with it, what is told
// later, and what was told ahead of it, stays.
func TestNewMemory(t *testing.T) {
	l := pairs(1, 2, 20)
	a, id := treapOf(t, l)
	kept, part := All(a, id), Range(a, id, 3, 9)
	for _, got := range [][]api.Pair{All(a, id), Range(a, id, 3, 9), Range(a, id, math.MinInt, math.MaxInt)} {
		got = append(got[:2], got[:cap(got)]...)
		for i := range got {
			got[i] = api.Pair{Key: -1, Val: -1}
		}
	}
	if !slices.Equal(kept, l) || !slices.Equal(part, pick(l, 3, 9)) {
		t.Errorf("told ahead: %v, %v", kept, part)
	}
	told(t, a, id, l, keysOf(l))
}

// R6: a treap is one of its own arena: what is done in another one doesn't
// matter.
func TestTwoArenas(t *testing.T) {
	l, m := pairs(1, 2, 9), pairs(-30, 5, 4)
	a, id := treapOf(t, l)
	b, other := treapOf(t, m)
	for range 3 {
		told(t, a, id, l, keysOf(l))
		told(t, b, other, m, keysOf(m))
	}
	told(t, arena.New(20), id, nil, keysOf(l))
}

// P9.1: what hangs on a treap is one itself, and many treaps share it.
func TestWhatHangs(t *testing.T) {
	l := pairs(0, 10, 30)
	a := arena.New(200)
	id := built(t, a, l)
	high := makeOne(t, a, api.Pair{Key: 500, Val: 1}, id, 0)
	low := makeOne(t, a, api.Pair{Key: -500, Val: 2}, 0, id)
	told(t, a, high, append(slices.Clone(l), api.Pair{Key: 500, Val: 1}), keysOf(l))
	told(t, a, low, append([]api.Pair{{Key: -500, Val: 2}}, l...), keysOf(l))
	n, _ := node.Get(a, id)
	i := above(l)
	told(t, a, n.Left, l[:i], keysOf(l))
	told(t, a, n.Right, l[i+1:], keysOf(l))
}

// odd is an arena with a node (1), a cell that holds the node's number (2), and
// records of other kinds that say what the node says (3, 4); and the numbers in
// it that no treap has.
func odd(t *testing.T) (*arena.Arena, []int) {
	t.Helper()
	a := arena.New(50)
	makeOne(t, a, api.Pair{Key: 5, Val: 6}, 0, 0)
	if id, e := a.Cell(1); id != 2 || e != api.OK {
		t.Fatalf("the cell: %d, %d", id, e)
	}
	byHand(t, a, 3, 2, 5, 6, 0, 0, 1, 1)
	byHand(t, a, 4, math.MaxInt, 5, 6, 0, 0, 1, 1)
	return a, []int{math.MinInt, -4, -1, 2, 3, 4, 5, 6, 20, 51, api.MaxArena, api.MaxArena + 1, math.MaxInt}
}

// P9.1: what is no treap; a node among such things.
func TestNoTreap(t *testing.T) {
	a, wrong := odd(t)
	for _, id := range append(wrong, 0) {
		told(t, a, id, nil, far)
	}
	told(t, a, 1, []api.Pair{{Key: 5, Val: 6}}, far)
	told(t, &arena.Arena{}, 1, nil, far)
}

// P9.1: no arena.
func TestNil(t *testing.T) {
	for _, id := range []int{math.MinInt, -1, 0, 1, 2, math.MaxInt} {
		told(t, nil, id, nil, far)
	}
}

// handmade is the treap of pairs whose keys rise, of records that were made by
// hand: where nothing is to hang, that hangs there (0: the record itself).
func handmade(t *testing.T, a *arena.Arena, l []api.Pair, hung int) int {
	t.Helper()
	i := above(l)
	sides := [2]int{hung, hung}
	for side, m := range [][]api.Pair{l[:i], l[i+1:]} {
		if len(m) > 0 {
			sides[side] = handmade(t, a, m, hung)
		}
	}
	id := a.Used() + 1
	for side, on := range sides {
		if on == 0 {
			sides[side] = id
		}
	}
	high := 1 + max(look.High(a, sides[0]), look.High(a, sides[1]))
	byHand(t, a, id, 1, l[i].Key, l[i].Val, sides[0], sides[1], len(l), high)
	return id
}

// Layer 3's words: what hangs on a record that was made by hand, and isn't a
// node, or hasn't a lower number, counts as nothing.
func TestHung(t *testing.T) {
	for _, hung := range []int{math.MinInt, -1, 0, 2, 3, 4, 30, 31, 45, 50, 51, 100, math.MaxInt} {
		for _, l := range [][]api.Pair{pairs(-2, 3, 1), pairs(-2, 3, 2), pairs(-9, 2, 9), mixed(1, 20, 50), ends()} {
			a, _ := odd(t)
			id := handmade(t, a, l, hung)
			for a.Used() < 45 {
				makeOne(t, a, api.Pair{Key: a.Used(), Val: 1}, 0, 0)
			}
			told(t, a, id, l, keysOf(l))
		}
	}
}

// P9.1: records that say anything and hang on one another in rings, among cells
// and other records: every call ends, without a panic, tells at most MaxArena
// pairs, and of the keys that it was asked for; Count tells as many as Range.
func TestRings(t *testing.T) {
	for seed := range 2000 {
		more := rule(seed)
		in := func(lo, hi int) int { return lo + int(uint(more())%uint(hi-lo)) }
		many := in(1, 12)
		a := arena.New(many)
		for id := 1; id <= many; id++ {
			if in(0, 8) == 0 {
				a.Cell(in(-2, many+3))
			} else {
				byHand(t, a, id, max(1, in(-5, 3)), in(-3, 8), more(), in(-2, many+4), in(-2, many+4), more()>>in(0, 63), more()>>in(0, 63))
			}
		}
		for id := -1; id <= many+1; id++ {
			if n := len(All(a, id)); n > api.MaxArena || a.Kind(id) != node.Kind && n > 0 {
				t.Errorf("seed %d: %d pairs of %d", seed, n, id)
			}
			for lo := -4; lo < 9; lo += 2 {
				endsWell(t, a, id, lo, in(-4, 9))
			}
		}
		if a.Used() != many || a.Steps() != 0 {
			t.Errorf("seed %d: not only looked at", seed)
		}
	}
}

// endsWell fails where a call on whatever tells what no call may tell.
func endsWell(t *testing.T, a *arena.Arena, id, lo, hi int) {
	t.Helper()
	got := Range(a, id, lo, hi)
	if n := Count(a, id, lo, hi); n != len(got) || n > api.MaxArena {
		t.Errorf("Range(%d, %d, %d): %d pairs, Count %d", id, lo, hi, len(got), n)
	}
	for _, p := range got {
		if p.Key < lo || p.Key > hi {
			t.Errorf("Range(%d, %d, %d): %v", id, lo, hi, p)
		}
	}
	if p, ok := Next(a, id, lo); ok && p.Key <= lo || !ok && p != (api.Pair{}) {
		t.Errorf("Next(%d, %d): %v, %v", id, lo, p, ok)
	}
}

// doubled is records made by hand, each with the one ahead of it on both its
// sides, above a chain of so many that have nothing on their left: told one by
// one they are more than any walk comes through. Keys are those of the rule.
func doubled(t *testing.T, a *arena.Arena, chain, many int, key func(i int) int) int {
	t.Helper()
	for i := range chain + many {
		left := i
		if i < chain {
			left = 0
		}
		byHand(t, a, i+1, 1, key(i), i, left, i, 1, 1)
	}
	return chain + many
}

// P9.1: records that share what hangs on them, which thereby comes to more than
// there is time for: every call ends, and tells at most MaxArena pairs. Here what
// is asked for stands at the top, in the middle, at the end, or nowhere.
func TestShared(t *testing.T) {
	same := func(int) int { return 5 }
	rises := func(i int) int { return i }
	falls := func(i int) int { return -i }
	turns := func(i int) int { return i * (i%2*2 - 1) }
	for _, key := range []func(int) int{same, rises, falls, turns} {
		for _, chain := range []int{0, 100, api.MaxArena - 60} {
			a := arena.New(math.MaxInt)
			id := doubled(t, a, chain, 60, key)
			for _, lo := range append(keysOf(nil), key(chain/2), key(chain), key(chain+59)) {
				for _, hi := range []int{lo, lo + 3, 5, math.MaxInt} {
					endsWell(t, a, id, lo, hi)
				}
			}
			if n := len(All(a, id)); n > api.MaxArena {
				t.Errorf("%d pairs", n)
			}
		}
	}
}

// R3: ways down as long as an arena has room for.
func TestLong(t *testing.T) {
	l := pairs(-7, 2, api.MaxArena)
	for _, side := range []int{-1, 1} {
		a := arena.New(math.MaxInt)
		id := 0
		for i := range l {
			if side < 0 {
				id = makeOne(t, a, l[i], id, 0)
			} else {
				id = makeOne(t, a, l[len(l)-1-i], 0, id)
			}
		}
		for _, i := range []int{0, 1, len(l) / 2, len(l) - 1} {
			ranged(t, a, id, l[i].Key, math.MaxInt, l[i:])
			ranged(t, a, id, math.MinInt, l[i].Key, l[:i+1])
			next(t, a, id, l[i].Key, l)
		}
		if !slices.Equal(All(a, id), l) {
			t.Errorf("side %d: not all", side)
		}
	}
}
