package look

import (
	"math"
	"slices"
	"testing"

	"osier/api"
	"osier/arena"
	"osier/mix"
	"osier/node"
)

// says is what the calls are to tell of a treap: by key (of Get and Below), by
// place (of Nth), and of the treap as a whole.
type says struct {
	vals       map[int]int
	below      map[int]int
	nth        []api.Pair
	size, high int
	lo, hi     api.Pair
	some       bool
}

// makeOne makes a node, and tells its number.
func makeOne(t *testing.T, a *arena.Arena, p api.Pair, left, right int) int {
	t.Helper()
	id, e := node.Make(a, p, left, right)
	if e != api.OK {
		t.Fatalf("Make(%v, %d, %d): error %d", p, left, right, e)
	}
	return id
}

// byHand makes a record, and fails where it doesn't get that number.
func byHand(t *testing.T, a *arena.Arena, want, kind int, vals ...int) {
	t.Helper()
	if id, e := a.Make(kind, vals...); id != want || e != api.OK {
		t.Fatalf("a record of kind %d: %d, %d, not %d", kind, id, e, want)
	}
}

// built is a treap of pairs whose keys rise: which of them is the topmost one is
// told by top.
func built(t *testing.T, a *arena.Arena, l []api.Pair, top func([]api.Pair) int) int {
	t.Helper()
	if len(l) == 0 {
		return 0
	}
	i := top(l)
	left := built(t, a, l[:i], top)
	return makeOne(t, a, l[i], left, built(t, a, l[i+1:], top))
}

// above is the place of the pair that mix has above all others.
func above(l []api.Pair) int {
	top := 0
	for i, p := range l {
		if mix.Above(p.Key, l[top].Key) {
			top = i
		}
	}
	return top
}

// Other shapes: what the calls tell hangs on the way down alone.
func first(l []api.Pair) int  { return 0 }
func last(l []api.Pair) int   { return len(l) - 1 }
func middle(l []api.Pair) int { return len(l) / 2 }
func bent(l []api.Pair) int   { return (len(l) - 1) * (len(l) % 2) }

// pairs is so many pairs: keys rise by a number, values fall and come to 0.
func pairs(from, by, n int) []api.Pair {
	var l []api.Pair
	for i := range n {
		l = append(l, api.Pair{Key: from + i*by, Val: 3 - i})
	}
	return l
}

// deep is the height of a treap, found by going through it.
func deep(a *arena.Arena, t int) int {
	n, ok := node.Get(a, t)
	if !ok {
		return 0
	}
	return max(deep(a, n.Left), deep(a, n.Right)) + 1
}

// of is what is to be told of a treap of those pairs, asked for those keys.
func of(l []api.Pair, high int, keys ...int) says {
	w := says{vals: map[int]int{}, below: map[int]int{}, nth: l, size: len(l), high: high}
	if len(l) > 0 {
		w.lo, w.hi, w.some = l[0], l[len(l)-1], true
	}
	for _, key := range keys {
		n := 0
		for _, p := range l {
			if p.Key < key {
				n++
			}
			if p.Key == key {
				w.vals[key] = p.Val
			}
		}
		w.below[key] = n
	}
	return w
}

// told fails where a call tells something else, of those keys or any place, or
// where it isn't only a look.
func told(t *testing.T, a *arena.Arena, id int, w says, keys ...int) {
	t.Helper()
	used, room, steps := a.Used(), a.Room(), a.Steps()
	for _, key := range keys {
		want, there := w.vals[key]
		if v, ok := Get(a, id, key); v != want || ok != there {
			t.Errorf("Get(%d, %d): %d, %v, not %d, %v", id, key, v, ok, want, there)
		}
		if n := Below(a, id, key); n != w.below[key] {
			t.Errorf("Below(%d, %d): %d, not %d", id, key, n, w.below[key])
		}
	}
	for i := -2; i < len(w.nth)+2; i++ {
		want, there := api.Pair{}, i >= 0 && i < len(w.nth)
		if there {
			want = w.nth[i]
		}
		nth(t, a, id, i, want, there)
	}
	for _, i := range []int{math.MinInt, math.MinInt + 1, math.MaxInt - 1, math.MaxInt} {
		nth(t, a, id, i, api.Pair{}, false)
	}
	whole(t, a, id, w)
	if a.Used() != used || a.Room() != room || a.Steps() != steps {
		t.Errorf("treap %d: not only looked at", id)
	}
}

// nth fails where Nth tells something else.
func nth(t *testing.T, a *arena.Arena, id, i int, want api.Pair, there bool) {
	t.Helper()
	if p, ok := Nth(a, id, i); p != want || ok != there {
		t.Errorf("Nth(%d, %d): %v, %v, not %v, %v", id, i, p, ok, want, there)
	}
}

// whole fails where something else is told of the treap as a whole.
func whole(t *testing.T, a *arena.Arena, id int, w says) {
	t.Helper()
	if n := Size(a, id); n != w.size {
		t.Errorf("Size(%d): %d, not %d", id, n, w.size)
	}
	if n := High(a, id); n != w.high {
		t.Errorf("High(%d): %d, not %d", id, n, w.high)
	}
	if p, ok := Min(a, id); p != w.lo || ok != w.some {
		t.Errorf("Min(%d): %v, %v, not %v, %v", id, p, ok, w.lo, w.some)
	}
	if p, ok := Max(a, id); p != w.hi || ok != w.some {
		t.Errorf("Max(%d): %v, %v, not %v, %v", id, p, ok, w.hi, w.some)
	}
}

// far is keys at the ends and in the middle of int.
var far = []int{math.MinInt, math.MinInt + 1, -1, 0, 1, 5, math.MaxInt - 1, math.MaxInt}

// P4.1, P4.2: the chapter's example: of nothing, nothing.
func TestExample(t *testing.T) {
	told(t, arena.New(9), 0, says{}, far...)
	told(t, arena.New(0), 0, says{}, far...)
	told(t, &arena.Arena{}, 0, says{}, far...)
}

// P4.1, P4.2: no arena.
func TestNil(t *testing.T) {
	for _, id := range []int{math.MinInt, -1, 0, 1, 2, math.MaxInt} {
		told(t, nil, id, says{}, far...)
	}
}

// P4.1, P4.2: treaps of all small sizes, and some greater ones, in all shapes:
// keys below, between and above those that are there.
func TestTreaps(t *testing.T) {
	for n := range 40 {
		treapOf(t, pairs(-20, 3, n))
	}
	treapOf(t, pairs(7, 1, 100))
	treapOf(t, pairs(-1000, 11, 200))
}

// treapOf asks treaps of those pairs whatever there is to be asked.
func treapOf(t *testing.T, l []api.Pair) {
	t.Helper()
	keys := slices.Clone(far)
	for _, p := range l {
		keys = append(keys, p.Key-1, p.Key, p.Key+1)
	}
	for _, top := range []func([]api.Pair) int{above, first, last, middle, bent} {
		a := arena.New(len(l))
		id := built(t, a, l, top)
		told(t, a, id, of(l, deep(a, id), keys...), keys...)
	}
}

// P4.1, P4.2: one pair alone.
func TestOne(t *testing.T) {
	a := arena.New(9)
	p := api.Pair{Key: 5, Val: -6}
	id := makeOne(t, a, p, 0, 0)
	told(t, a, id, says{
		vals:  map[int]int{5: -6},
		below: map[int]int{6: 1, math.MaxInt: 1},
		nth:   []api.Pair{p}, size: 1, high: 1, lo: p, hi: p, some: true,
	}, math.MinInt, 4, 5, 6, math.MaxInt)
}

// P4.1: a value of 0 is told as there.
func TestValueZero(t *testing.T) {
	a := arena.New(9)
	l := []api.Pair{{Key: -2}, {Key: 0}, {Key: 2}}
	told(t, a, built(t, a, l, middle), of(l, 2, -3, -2, 0, 2), -3, -2, 0, 2)
}

// P4.1, P4.2: keys and values at the ends of int.
func TestEnds(t *testing.T) {
	l := []api.Pair{
		{Key: math.MinInt, Val: math.MaxInt}, {Key: math.MinInt + 1, Val: math.MinInt},
		{Key: -1, Val: 1}, {Key: 0, Val: 0}, {Key: 1, Val: -1},
		{Key: math.MaxInt - 1, Val: math.MinInt}, {Key: math.MaxInt, Val: math.MaxInt},
	}
	treapOf(t, l)
	treapOf(t, l[1:])
	treapOf(t, l[:6])
	treapOf(t, l[1:6])
	treapOf(t, l[6:])
	treapOf(t, l[:1])
}

// P4.1, P4.2: each node is a treap of its own: of what hangs on it and itself;
// so it stays when it hangs on others, and they tell other things.
func TestParts(t *testing.T) {
	a := arena.New(9)
	two := makeOne(t, a, api.Pair{Key: 2, Val: 20}, 0, 0)
	four := makeOne(t, a, api.Pair{Key: 4, Val: 40}, 0, 0)
	three := makeOne(t, a, api.Pair{Key: 3, Val: 30}, two, four)
	nine := makeOne(t, a, api.Pair{Key: 9, Val: 90}, three, 0)
	other := makeOne(t, a, api.Pair{Key: 1, Val: 10}, 0, three)
	l := []api.Pair{{Key: 1, Val: 10}, {Key: 2, Val: 20}, {Key: 3, Val: 30}, {Key: 4, Val: 40}, {Key: 9, Val: 90}}
	keys := []int{0, 1, 2, 3, 4, 5, 9, 10}
	told(t, a, two, of(l[1:2], 1, keys...), keys...)
	told(t, a, four, of(l[3:4], 1, keys...), keys...)
	told(t, a, three, of(l[1:4], 2, keys...), keys...)
	told(t, a, nine, of(l[1:5], 3, keys...), keys...)
	told(t, a, other, of(l[0:4], 3, keys...), keys...)
}

// odd is an arena with a node (1), a cell that holds the node's number (2), and
// records of other kinds that say what the node says (3, 4), with some room;
// and the numbers in it that no treap has.
func odd(t *testing.T) (*arena.Arena, []int) {
	t.Helper()
	a := arena.New(20)
	makeOne(t, a, api.Pair{Key: 5, Val: 6}, 0, 0)
	if id, e := a.Cell(1); id != 2 || e != api.OK {
		t.Fatalf("the cell: %d, %d", id, e)
	}
	byHand(t, a, 3, 2, 5, 6, 0, 0, 1, 1)
	byHand(t, a, 4, math.MaxInt, 5, 6, 0, 0, 1, 1)
	return a, []int{math.MinInt, -4, -1, 0, 2, 3, 4, 5, 6, 20, 21, api.MaxArena, api.MaxArena + 1, math.MaxInt}
}

// P4.1, P4.2: what is no treap: as of nothing.
func TestNoTreap(t *testing.T) {
	a, wrong := odd(t)
	for _, id := range wrong {
		told(t, a, id, says{}, far...)
	}
	told(t, a, 1, of([]api.Pair{{Key: 5, Val: 6}}, 1, far...), far...)
}

// R6: a treap is one of its own arena, and there is none in another one.
func TestTwoArenas(t *testing.T) {
	a, b := arena.New(2), arena.New(2)
	l := []api.Pair{{Key: 1, Val: 2}, {Key: 3, Val: 4}}
	id := built(t, a, l, first)
	told(t, b, id, says{}, far...)
	makeOne(t, b, api.Pair{Key: 9, Val: 8}, 0, 0)
	told(t, b, 1, of([]api.Pair{{Key: 9, Val: 8}}, 1, 3, 9, 10), 3, 9, 10)
	told(t, a, id, of(l, 2, 0, 1, 2, 3, 9), 0, 1, 2, 3, 9)
}

// P4.1, P4.2: what hangs on a record that was made by hand, and isn't a node,
// or hasn't a lower number, counts as nothing: nobody goes there, and its size
// isn't counted.
func TestHung(t *testing.T) {
	_, wrong := odd(t)
	for _, hung := range append(wrong, 7) {
		p := api.Pair{Key: 50, Val: 60}
		more := []api.Pair{{Key: 5, Val: 6}, p}
		keys := []int{4, 5, 6, 49, 50, 51, 99, 100, 101}
		told(t, withHung(t, 50, hung, hung, 1), 5, of(more[1:], 7, keys...), keys...)
		told(t, withHung(t, 50, 1, hung, 2), 5, of(more, 7, keys...), keys...)
		p.Key = 3
		more = []api.Pair{p, {Key: 5, Val: 6}}
		keys = []int{2, 3, 4, 5, 6, 99, 100, 101}
		told(t, withHung(t, 3, hung, hung, 1), 5, of(more[:1], 7, keys...), keys...)
		told(t, withHung(t, 3, hung, 1, 2), 5, of(more, 7, keys...), keys...)
	}
}

// withHung is odd's arena with a record by hand (5), of that key, on which those
// two hang and which says that size, and a node (6) of the key 100.
func withHung(t *testing.T, key, left, right, size int) *arena.Arena {
	t.Helper()
	a, _ := odd(t)
	byHand(t, a, 5, 1, key, 60, left, right, size, 7)
	makeOne(t, a, api.Pair{Key: 100, Val: 1}, 0, 0)
	return a
}

// P4.1: a way down goes by keys alone: of keys that don't rise it finds those
// that are on the way, and the value of the upper one where a key is there twice.
func TestAstray(t *testing.T) {
	a := arena.New(9)
	byHand(t, a, 1, 1, 8, 80, 0, 0, 1, 1)
	byHand(t, a, 2, 1, 2, 20, 0, 0, 1, 1)
	byHand(t, a, 3, 1, 5, 50, 1, 2, 3, 2) // its left is above it, its right below
	byHand(t, a, 4, 1, 5, 51, 3, 3, 7, 3)
	byHand(t, a, 5, 1, 1, 10, 4, 4, 15, 4)
	for _, x := range []struct{ id, key, val, below int }{
		{1, 8, 80, 0}, {3, 5, 50, 1}, {4, 5, 51, 3}, {5, 5, 51, 7 + 1 + 3}, {5, 1, 10, 7},
	} {
		if v, ok := Get(a, x.id, x.key); v != x.val || !ok {
			t.Errorf("Get(%d, %d): %d, %v", x.id, x.key, v, ok)
		}
		if n := Below(a, x.id, x.key); n != x.below {
			t.Errorf("Below(%d, %d): %d", x.id, x.key, n)
		}
	}
	for _, id := range []int{3, 4, 5} {
		for _, key := range []int{2, 8} {
			if v, ok := Get(a, id, key); v != 0 || ok {
				t.Errorf("Get(%d, %d): %d, %v", id, key, v, ok)
			}
		}
	}
	whole(t, a, 3, says{size: 3, high: 2, lo: api.Pair{Key: 8, Val: 80}, hi: api.Pair{Key: 2, Val: 20}, some: true})
	whole(t, a, 5, says{size: 15, high: 4, lo: api.Pair{Key: 8, Val: 80}, hi: api.Pair{Key: 2, Val: 20}, some: true})
}

// P4.1: Size and High are what the node says, whatever hangs on it; of a record
// with few values, what it lacks is 0.
func TestSaid(t *testing.T) {
	a := arena.New(20)
	byHand(t, a, 1, 1)
	byHand(t, a, 2, 1, 3, 4)
	byHand(t, a, 3, 1, 3, 4, 2, 1, -5, -6)
	byHand(t, a, 4, 1, 3, 4, 0, 0, math.MaxInt, math.MinInt)
	byHand(t, a, 5, 1, 3, 4, 4, 4, math.MinInt, math.MaxInt)
	byHand(t, a, 6, 1, 7, 8, 5, 3, 9, 10, 11, 12)
	p := api.Pair{Key: 3, Val: 4}
	whole(t, a, 1, says{some: true})
	whole(t, a, 2, says{lo: p, hi: p, some: true})
	whole(t, a, 3, says{size: -5, high: -6, lo: p, some: true})
	whole(t, a, 4, says{size: math.MaxInt, high: math.MinInt, lo: p, hi: p, some: true})
	whole(t, a, 5, says{size: math.MinInt, high: math.MaxInt, lo: p, hi: p, some: true})
	whole(t, a, 6, says{size: 9, high: 10, lo: p, some: true})
	for _, id := range []int{2, 3, 4, 5, 6} {
		if v, ok := Get(a, id, 3); v != 4 || !ok {
			t.Errorf("Get(%d, 3): %d, %v", id, v, ok) // what is said doesn't matter to it
		}
	}
	for _, id := range []int{1, 2, 3, 5} {
		for _, i := range []int{math.MinInt, -6, -5, -1, 0, 1, math.MaxInt} {
			nth(t, a, id, i, api.Pair{}, false) // no size above 0: no place
		}
	}
}

// P4.2: places go by the sizes that are said, also where they don't add up: a
// place that no way leads to has no pair.
func TestPlaces(t *testing.T) {
	a := arena.New(20)
	p, q := api.Pair{Key: 1, Val: 10}, api.Pair{Key: 2, Val: 20}
	byHand(t, a, 1, 1, 1, 10, 0, 0, 3, 1) // says three, is one
	byHand(t, a, 2, 1, 2, 20, 1, 0, 9, 2) // says nine
	byHand(t, a, 3, 1, 2, 20, 0, 1, 1, 2) // says one, is two
	byHand(t, a, 4, 1, 2, 20, 4, 5, 3, 2) // nothing that counts hangs on it
	for _, x := range []struct {
		id, i int
		p     api.Pair
		ok    bool
	}{
		{1, 0, p, true}, {1, 1, api.Pair{}, false}, {1, 2, api.Pair{}, false},
		{2, 0, p, true}, {2, 1, api.Pair{}, false}, {2, 2, api.Pair{}, false},
		{2, 3, q, true}, {2, 4, api.Pair{}, false}, {2, 8, api.Pair{}, false}, {2, 9, api.Pair{}, false},
		{3, 0, q, true}, {3, 1, api.Pair{}, false},
		{4, 0, q, true}, {4, 1, api.Pair{}, false}, {4, 3, api.Pair{}, false},
	} {
		nth(t, a, x.id, x.i, x.p, x.ok)
	}
	for _, x := range []struct{ id, key, below int }{
		{2, 1, 0}, {2, 2, 3}, {2, 3, 4}, {3, 2, 0}, {3, 3, 1 + 1}, {4, 1, 0}, {4, 2, 0}, {4, 3, 1},
	} {
		if n := Below(a, x.id, x.key); n != x.below {
			t.Errorf("Below(%d, %d): %d, not %d", x.id, x.key, n, x.below)
		}
	}
}

// P4.1, P4.2: records that hang on one another in rings: every call ends, and
// goes no way up.
func TestRings(t *testing.T) {
	const many = 5
	sizes := []int{math.MinInt, -3, 0, 4, math.MaxInt}
	for rule := range 2000 {
		a := arena.New(many)
		seed := uint64(rule)
		one := func(n int) int {
			seed = seed*6364136223846793005 + 1442695040888963407
			return int(seed >> 33 % uint64(n))
		}
		for id := 1; id <= many; id++ {
			byHand(t, a, id, 1, one(7), id, one(many+3)-1, one(many+3)-1, sizes[one(5)], one(9))
		}
		for id := -1; id <= many+2; id++ {
			ends(t, a, id)
		}
	}
}

// ends asks everything of a record in a ring; what is told is one that is there.
func ends(t *testing.T, a *arena.Arena, id int) {
	t.Helper()
	size, some := Size(a, id), a.Kind(id) == node.Kind
	isOne := func(call string, p api.Pair, ok bool) {
		t.Helper()
		if ok && (p.Val < 1 || p.Val > id || p.Key != a.Val(p.Val, 0)) || !ok && p != (api.Pair{}) {
			t.Errorf("%s(%d): %v, %v", call, id, p, ok)
		}
	}
	lo, okLo := Min(a, id)
	hi, okHi := Max(a, id)
	isOne("Min", lo, okLo)
	isOne("Max", hi, okHi)
	if okLo != some || okHi != some {
		t.Errorf("Min, Max of %d: %v, %v", id, okLo, okHi)
	}
	for key := -1; key < 8; key++ {
		v, ok := Get(a, id, key)
		if ok {
			isOne("Get", api.Pair{Key: key, Val: v}, ok)
		} else if v != 0 {
			t.Errorf("Get(%d, %d): %d", id, key, v)
		}
		Below(a, id, key)
	}
	for _, i := range []int{math.MinInt, -1, 0, 1, 2, 3, 4, 5, math.MaxInt - 1, math.MaxInt} {
		p, ok := Nth(a, id, i)
		isOne("Nth", p, ok)
		if ok && (i < 0 || i >= size) {
			t.Errorf("Nth(%d, %d) of %d", id, i, size)
		}
	}
}

// P4.1, P4.2: one ring by hand, each of its records the lower one's and the
// upper one's: the way down is told, the way up is none.
func TestRing(t *testing.T) {
	a := arena.New(9)
	byHand(t, a, 1, 1, 5, 50, 2, 3, 1, 1)
	byHand(t, a, 2, 1, 7, 70, 1, 3, 2, 2)
	byHand(t, a, 3, 1, 3, 30, 3, 2, 3, 3)
	l := []api.Pair{{Key: 3, Val: 30}, {Key: 5, Val: 50}, {Key: 7, Val: 70}}
	keys := []int{2, 3, 4, 5, 6, 7, 8}
	told(t, a, 1, of(l[1:2], 1, keys...), keys...)
	told(t, a, 2, of(l[1:3], 2, keys...), keys...)
	told(t, a, 3, of(l, 3, keys...), keys...)
}

// P4.1, P4.2: ways down as long as an arena is, to the left, to the right, and
// to both in turn.
func TestLong(t *testing.T) {
	const many = api.MaxArena
	for _, x := range []struct{ left, right int }{{1, 0}, {0, 1}, {1, 1}} {
		a := arena.New(many)
		lo, hi := many, many
		id := makeOne(t, a, api.Pair{Key: many, Val: 1}, 0, 0)
		for i := range many - 1 {
			if x.left == 1 && (x.right == 0 || i%2 == 0) {
				hi++
				id = makeOne(t, a, api.Pair{Key: hi, Val: i}, id, 0)
			} else {
				lo--
				id = makeOne(t, a, api.Pair{Key: lo, Val: i}, 0, id)
			}
		}
		if p, ok := Min(a, id); !ok || p.Key != lo {
			t.Errorf("Min: %v, %v, not %d", p, ok, lo)
		}
		if p, ok := Max(a, id); !ok || p.Key != hi {
			t.Errorf("Max: %v, %v, not %d", p, ok, hi)
		}
		if Size(a, id) != many || High(a, id) != many {
			t.Errorf("size %d, height %d", Size(a, id), High(a, id))
		}
		if v, ok := Get(a, id, many); !ok || v != 1 {
			t.Errorf("Get: %d, %v", v, ok)
		}
		for key := lo; key <= hi; key += 997 {
			if p, ok := Nth(a, id, key-lo); !ok || p.Key != key || Below(a, id, key) != key-lo {
				t.Errorf("key %d: %v, %v, %d", key, p, ok, Below(a, id, key))
			}
		}
		if n := Below(a, id, hi+1); n != many {
			t.Errorf("Below: %d", n)
		}
	}
}

// R1: sizes that double with each node, up to the greatest int; the places in
// them are found at the ends too.
func TestDoubled(t *testing.T) {
	a := arena.New(70)
	for i := range 70 {
		makeOne(t, a, api.Pair{Key: i, Val: -i}, i, i)
	}
	for id := 1; id <= 62; id++ {
		size := 1<<id - 1
		if Size(a, id) != size || High(a, id) != id {
			t.Errorf("%d: size %d, height %d", id, Size(a, id), High(a, id))
		}
		nth(t, a, id, 0, api.Pair{}, true)
		nth(t, a, id, size-1, api.Pair{}, true)
		nth(t, a, id, size, api.Pair{}, false)
		nth(t, a, id, size/2, api.Pair{Key: id - 1, Val: 1 - id}, true)
		if n := Below(a, id, math.MaxInt); n != size {
			t.Errorf("Below of %d: %d", id, n)
		}
	}
	for id := 63; id <= 70; id++ {
		if n := Below(a, id, math.MaxInt); Size(a, id) != math.MaxInt || n != math.MaxInt {
			t.Errorf("%d: size %d, below %d", id, Size(a, id), n)
		}
		nth(t, a, id, math.MaxInt, api.Pair{}, false)
	}
	nth(t, a, 63, math.MaxInt-1, api.Pair{}, true)
	nth(t, a, 63, 1<<62-1, api.Pair{Key: 62, Val: -62}, true)
}

// R1: no sum of sizes that were made by hand goes round: it is held at the ends
// of int; nor is one held that need not be.
func TestNoRound(t *testing.T) {
	for _, x := range []struct{ upper, under, at, past int }{
		{math.MaxInt, 0, math.MaxInt, math.MaxInt},
		{math.MaxInt, math.MaxInt, math.MaxInt, math.MaxInt},
		{math.MaxInt - 1, 0, math.MaxInt, math.MaxInt},
		{math.MaxInt - 2, 0, math.MaxInt - 1, math.MaxInt},
		{math.MaxInt - 3, 0, math.MaxInt - 2, math.MaxInt - 1},
		{math.MaxInt - 9, 8, math.MaxInt, math.MaxInt},
		{math.MaxInt - 9, 9, math.MaxInt, math.MaxInt},
		{math.MaxInt - 9, 7, math.MaxInt - 1, math.MaxInt},
		{0, math.MaxInt - 1, math.MaxInt, math.MaxInt},
		{0, math.MaxInt - 2, math.MaxInt - 1, math.MaxInt},
		{math.MinInt, math.MinInt, math.MinInt, math.MinInt + 1},
		{math.MinInt, -1, math.MinInt, math.MinInt + 1},
		{math.MinInt, -2, math.MinInt, math.MinInt + 1},
		{math.MinInt + 9, -10, math.MinInt, math.MinInt + 1},
		{math.MinInt + 9, -11, math.MinInt, math.MinInt + 1},
		{math.MinInt + 9, -9, math.MinInt + 1, math.MinInt + 2},
		{-1, math.MinInt, math.MinInt, math.MinInt + 1},
		{math.MinInt, math.MaxInt, 0, 1},
		{-4, -5, -8, -7},
		{4, -5, 0, 1},
	} {
		a := arena.New(9)
		byHand(t, a, 1, 1, 1, 1, 0, 0, x.upper)
		byHand(t, a, 2, 1, 3, 2, 0, 0, x.under)
		byHand(t, a, 3, 1, 4, 3, 2, 0)
		byHand(t, a, 4, 1, 2, 4, 1, 3, math.MaxInt)
		if n := Below(a, 4, 4); n != x.at {
			t.Errorf("%v: at %d", x, n)
		}
		if n := Below(a, 4, 5); n != x.past {
			t.Errorf("%v: past %d", x, n)
		}
		if n := Below(a, 4, 2); n != x.upper {
			t.Errorf("%v: %d", x, n)
		}
		ends(t, a, 4)
	}
}

// P4.2, R1: a place after a size below 0, however far: places ahead of all are
// counted, and the one in question is found.
func TestPlaceAfterLess(t *testing.T) {
	a := arena.New(9)
	byHand(t, a, 1, 1, 1, 10, 0, 0, math.MinInt)
	byHand(t, a, 2, 1, 3, 30, 0, 0, math.MaxInt)
	byHand(t, a, 3, 1, 4, 40, 2, 0, 0)
	byHand(t, a, 4, 1, 2, 20, 1, 3, math.MaxInt)
	byHand(t, a, 5, 1, 2, 20, 1, 0, math.MaxInt)
	nth(t, a, 4, 0, api.Pair{Key: 4, Val: 40}, true)
	for _, i := range []int{1, math.MaxInt - 1, math.MaxInt} {
		nth(t, a, 4, i, api.Pair{}, false)
		nth(t, a, 5, i, api.Pair{}, false)
	}
}

// P4.2, R1: a place ahead of a size that goes beyond int with those passed.
func TestPlaceAheadOfMore(t *testing.T) {
	for _, size := range []int{math.MaxInt - 7, math.MaxInt - 6, math.MaxInt - 5, math.MaxInt} {
		a := arena.New(9)
		byHand(t, a, 1, 1, 1, 10, 0, 0, 5)
		byHand(t, a, 2, 1, 3, 30, 0, 0, size)
		byHand(t, a, 3, 1, 4, 40, 2, 0, 0)
		byHand(t, a, 4, 1, 2, 20, 1, 3, math.MaxInt)
		nth(t, a, 4, 5, api.Pair{Key: 2, Val: 20}, true)
		nth(t, a, 4, 6, api.Pair{Key: 3, Val: 30}, true)
		nth(t, a, 4, 7, api.Pair{}, false)
		if size == math.MaxInt-7 {
			nth(t, a, 4, math.MaxInt-1, api.Pair{Key: 4, Val: 40}, true)
		} else {
			nth(t, a, 4, math.MaxInt-1, api.Pair{}, false) // that one stands beyond all places
		}
	}
}

// P4.3: the i-th one has i below, of treaps of whatever keys, as they grow.
func TestPlaceAndBelow(t *testing.T) {
	for rule := range 30 {
		seed := uint64(rule)
		key := math.MinInt
		var l []api.Pair
		for range 60 {
			seed = seed*6364136223846793005 + 1442695040888963407
			l = append(l, api.Pair{Key: key, Val: int(seed)})
			key += int(seed>>(8+rule)) + 1
		}
		for n := 0; n <= len(l); n += 1 + n/3 {
			a := arena.New(n)
			id := built(t, a, l[:n], above)
			for i, p := range l[:n] {
				nth(t, a, id, i, p, true)
				if k := Below(a, id, p.Key); k != i {
					t.Errorf("rule %d: Below(%d): %d, not %d", rule, p.Key, k, i)
				}
			}
			nth(t, a, id, n, api.Pair{}, false)
		}
	}
}
