package join

import (
	"maps"
	"math"
	"slices"
	"testing"

	"osier/api"
	"osier/arena"
	"osier/look"
	"osier/mix"
	"osier/node"
	"osier/part"
)

// above is the place of the pair that mix has above all others.
func above(l []api.Pair) int {
	top := 0
	for i, p := range l {
		if mix.Above(p.Key, l[top].Key) {
			top = i
		}
	}
	return top
}

// makeOne makes a node, and tells its number.
func makeOne(t *testing.T, a *arena.Arena, p api.Pair, left, right int) int {
	t.Helper()
	id, e := node.Make(a, p, left, right)
	if e != api.OK {
		t.Fatalf("Make(%v, %d, %d): error %d", p, left, right, e)
	}
	return id
}

// byHand makes a record, and fails where it doesn't get that number.
func byHand(t *testing.T, a *arena.Arena, want, kind int, vals ...int) {
	t.Helper()
	if id, e := a.Make(kind, vals...); id != want || e != api.OK {
		t.Fatalf("a record of kind %d: %d, %d, not %d", kind, id, e, want)
	}
}

// built is the treap of pairs whose keys rise.
func built(t *testing.T, a *arena.Arena, l []api.Pair) int {
	t.Helper()
	if len(l) == 0 {
		return 0
	}
	i := above(l)
	left := built(t, a, l[:i])
	return makeOne(t, a, l[i], left, built(t, a, l[i+1:]))
}

// treapsOf is an arena with the treaps of those rows of pairs, and that much
// room left.
func treapsOf(t *testing.T, room int, rows ...[]api.Pair) (*arena.Arena, []int) {
	t.Helper()
	a := arena.New(len(slices.Concat(rows...)) + room)
	var ids []int
	for _, l := range rows {
		ids = append(ids, built(t, a, l))
	}
	return a, ids
}

// isOf says whether id is just the treap of pairs whose keys rise: the pair that
// is above all others stands on top, sizes and heights are those of what hangs
// there, and numbers fall on every way down.
func isOf(a *arena.Arena, id int, l []api.Pair) bool {
	_, ok := highOf(a, id, l)
	return ok
}

// highOf is the height of the treap of those pairs, and whether id is it.
func highOf(a *arena.Arena, id int, l []api.Pair) (int, bool) {
	if len(l) == 0 {
		return 0, id == 0
	}
	n, ok := node.Get(a, id)
	i := above(l)
	if !ok || n.Pair != l[i] || n.Size != len(l) || n.Left >= id || n.Right >= id {
		return 0, false
	}
	left, okLeft := highOf(a, n.Left, l[:i])
	right, okRight := highOf(a, n.Right, l[i+1:])
	return n.High, okLeft && okRight && n.High == max(left, right)+1
}

// areOf says whether each of those treaps is that of its row of pairs.
func areOf(a *arena.Arena, ids []int, rows [][]api.Pair) bool {
	for i, l := range rows {
		if !isOf(a, ids[i], l) {
			return false
		}
	}
	return true
}

// pairs is so many pairs: keys rise by a number, values fall and come to 0.
func pairs(from, by, n int) []api.Pair {
	var l []api.Pair
	for i := range n {
		l = append(l, api.Pair{Key: from + i*by, Val: 3 - i})
	}
	return l
}

// rule is numbers that go all over int, one after the other.
func rule(seed int) func() int {
	x := uint64(seed)
	return func() int {
		x += 0x9e3779b97f4a7c15
		return int((x ^ x>>29) * 0xbf58476d1ce4e5b9)
	}
}

// mixed is up to so many pairs, with keys that lie the closer the more they are
// shifted.
func mixed(seed, n, shift int) []api.Pair {
	next := rule(seed)
	m := map[int]int{}
	for range n {
		m[next()>>shift] = next()
	}
	var l []api.Pair
	for _, key := range slices.Sorted(maps.Keys(m)) {
		l = append(l, api.Pair{Key: key, Val: m[key]})
	}
	return l
}

// ends is pairs at the ends and in the middle of int.
func ends() []api.Pair {
	return []api.Pair{
		{Key: math.MinInt, Val: math.MaxInt}, {Key: math.MinInt + 1, Val: math.MinInt},
		{Key: -1, Val: 1}, {Key: 0, Val: 0}, {Key: 1, Val: -1},
		{Key: math.MaxInt - 1, Val: math.MinInt}, {Key: math.MaxInt, Val: math.MaxInt},
	}
}

// lists is pairs of many kinds: none, one, two, some, many; close, far, at the
// ends of int.
func lists() [][]api.Pair {
	var l [][]api.Pair
	for n := range 30 {
		l = append(l, pairs(-20, 3, n), pairs(5, 1, n), mixed(n, n, 2*n))
	}
	for from := range ends() {
		for to := from; to <= len(ends()); to++ {
			l = append(l, ends()[from:to])
		}
	}
	return append(l, pairs(-1000, 11, 120), mixed(1, 120, 2))
}

// apart says whether l's keys all are below m's.
func apart(l, m []api.Pair) bool {
	return len(l) == 0 || len(m) == 0 || l[len(l)-1].Key < m[0].Key
}

// one joins the treaps x of pairs l and y of pairs m, and fails where something
// else is told, too many records are made, or an old treap or a cell is touched.
func one(t *testing.T, a *arena.Arena, x, y int, l, m []api.Pair) int {
	t.Helper()
	used, high := a.Used(), look.High(a, x)+look.High(a, y)
	u, e := Two(a, x, y)
	if e != api.OK || !isOf(a, u, slices.Concat(l, m)) {
		t.Errorf("%v and %v: %d, %d", l, m, u, e)
	}
	if !isOf(a, x, l) || !isOf(a, y, m) {
		t.Errorf("%v and %v: they are not as they were", l, m)
	}
	if made := a.Used() - used; made > high || a.Steps() != 0 {
		t.Errorf("%v and %v: %d records, both high %d, %d steps", l, m, made, high, a.Steps())
	}
	return u
}

// refused fails where Two tells another error than that, or anything beside it,
// or makes something beside ErrArg.
func refused(t *testing.T, a *arena.Arena, x, y int, want api.Errno) {
	t.Helper()
	used := a.Used()
	if u, e := Two(a, x, y); u != 0 || e != want {
		t.Errorf("%d and %d: %d, %d, not error %d", x, y, u, e, want)
	}
	if want == api.ErrArg && a.Used() != used {
		t.Errorf("%d and %d: made something", x, y)
	}
}

// allRefused is the same of All.
func allRefused(t *testing.T, a *arena.Arena, l []int, want api.Errno) {
	t.Helper()
	used := a.Used()
	if u, e := All(a, l...); u != 0 || e != want {
		t.Errorf("all of %v: %d, %d, not error %d", l, u, e, want)
	}
	if want == api.ErrArg && a.Used() != used {
		t.Errorf("all of %v: made something", l)
	}
}

// P8.1: the chapter's example: Two of nothing and t is t; so is Two of t and
// nothing. It needs no room.
func TestExample(t *testing.T) {
	for _, l := range lists() {
		for _, room := range []int{0, 20} {
			a, ids := treapsOf(t, room, l)
			id := ids[0]
			if u, e := Two(a, 0, id); u != id || e != api.OK {
				t.Errorf("nothing and %v: %d, %d", l, u, e)
			}
			if u, e := Two(a, id, 0); u != id || e != api.OK {
				t.Errorf("%v and nothing: %d, %d", l, u, e)
			}
			if a.Used() != len(l) || a.Steps() != 0 || !isOf(a, id, l) {
				t.Errorf("%v is not as it was", l)
			}
		}
	}
	if u, e := Two(&arena.Arena{}, 0, 0); u != 0 || e != api.OK {
		t.Errorf("nothing and nothing: %d, %d", u, e)
	}
}

// P8.1, P8.2: pairs of many kinds, in two at each place.
func TestTwo(t *testing.T) {
	for _, l := range lists() {
		for i := range len(l) + 1 {
			a, ids := treapsOf(t, 200, l[:i], l[i:])
			one(t, a, ids[0], ids[1], l[:i], l[i:])
		}
	}
}

// subset is those of the pairs of keys 0 to 4 that have their bit in a number.
func subset(bits int) []api.Pair {
	var l []api.Pair
	for key := range 5 {
		if bits>>key&1 == 1 {
			l = append(l, api.Pair{Key: key, Val: 10 * key})
		}
	}
	return l
}

// P8.1: all keys among five on one side, all on the other: beside one another,
// with keys between, the same key at the brink or elsewhere, one among the
// other, the wrong way round, one and the same. In an arena without room, too,
// what may not be is ErrArg.
func TestSubsets(t *testing.T) {
	for i := range 32 {
		for k := range 32 {
			l, m := subset(i), subset(k)
			for _, room := range []int{0, 20} {
				a, ids := treapsOf(t, room, l, m)
				if !apart(l, m) {
					refused(t, a, ids[0], ids[1], api.ErrArg)
					allRefused(t, a, ids, api.ErrArg)
				} else if room > 0 {
					one(t, a, ids[0], ids[1], l, m)
				}
				if !areOf(a, ids, [][]api.Pair{l, m}) {
					t.Errorf("%v and %v: they are not as they were", l, m)
				}
			}
		}
	}
}

// P8.1: l's Max just below r's Min, that key itself, and just above it, wherever
// that is; a treap and itself.
func TestBrink(t *testing.T) {
	at := func(keys ...int) []api.Pair {
		var l []api.Pair
		for i, key := range keys {
			l = append(l, api.Pair{Key: key, Val: i - 1})
		}
		return l
	}
	for _, x := range [][2][]api.Pair{
		{at(-9, -1), at(0, 9)}, {at(-9, 0), at(0, 9)}, {at(-9, 1), at(0, 9)},
		{at(math.MinInt), at(math.MinInt + 1)}, {at(math.MinInt), at(math.MinInt)}, {at(math.MinInt + 1), at(math.MinInt)},
		{at(math.MaxInt - 1), at(math.MaxInt)}, {at(math.MaxInt), at(math.MaxInt)}, {at(math.MaxInt), at(math.MaxInt - 1)},
		{at(math.MinInt), at(math.MaxInt)}, {at(math.MaxInt), at(math.MinInt)},
		{at(math.MinInt, math.MaxInt), at(0)}, {at(0), at(math.MinInt, math.MaxInt)},
	} {
		a, ids := treapsOf(t, 20, x[0], x[1])
		if apart(x[0], x[1]) {
			one(t, a, ids[0], ids[1], x[0], x[1])
		} else {
			refused(t, a, ids[0], ids[1], api.ErrArg)
		}
	}
	for _, l := range lists() {
		a, ids := treapsOf(t, 100, l)
		if len(l) > 0 {
			refused(t, a, ids[0], ids[0], api.ErrArg)
			allRefused(t, a, []int{ids[0], ids[0]}, api.ErrArg)
		}
	}
}

// P8.2, P7.2: what is parted at whatever key and joined is the treap again.
func TestPartedAndJoined(t *testing.T) {
	for _, l := range lists() {
		a, ids := treapsOf(t, 40000, l)
		for _, p := range slices.Concat(l, ends()) {
			left, right, e := part.At(a, ids[0], p.Key)
			u, f := Two(a, left, right)
			if e != api.OK || f != api.OK || !isOf(a, u, l) {
				t.Errorf("%v at %d: %d, %d, %d", l, p.Key, u, e, f)
			}
		}
	}
}

// P8.1, P8.2: long rows, each of one that came before, parted, or of two that
// have no key between them, joined: all treaps stay as they were, to the end.
func TestRows(t *testing.T) {
	type was struct{ id, from, to int }
	for seed := range 20 {
		next := rule(seed)
		in := func(n int) int { return int(uint(next()) % uint(n)) }
		l := mixed(seed, 40, 3*seed)
		a, ids := treapsOf(t, 20000, l)
		all := []was{{ids[0], 0, len(l)}}
		for range 200 {
			x, y := all[in(len(all))], all[in(len(all))]
			if x.to == y.from {
				u := one(t, a, x.id, y.id, l[x.from:x.to], l[y.from:y.to])
				all = append(all, was{u, x.from, y.to})
			} else if i := x.from + in(x.to-x.from+1); i < x.to {
				left, right, _ := part.At(a, x.id, l[i].Key)
				all = append(all, was{left, x.from, i}, was{right, i, x.to})
			}
		}
		for _, w := range all {
			if !isOf(a, w.id, l[w.from:w.to]) {
				t.Errorf("row %d: treap %d is not as it was", seed, w.id)
			}
		}
	}
}

// odd is an arena with a node (1), a cell that holds the node's number (2), and
// records of other kinds that say what the node says (3, 4), with that much room
// left; and the numbers in it that no treap has.
func odd(t *testing.T, room int) (*arena.Arena, []int) {
	t.Helper()
	a := arena.New(4 + room)
	makeOne(t, a, api.Pair{Key: 5, Val: 6}, 0, 0)
	if id, e := a.Cell(1); id != 2 || e != api.OK {
		t.Fatalf("the cell: %d, %d", id, e)
	}
	byHand(t, a, 3, 2, 5, 6, 0, 0, 1, 1)
	byHand(t, a, 4, math.MaxInt, 5, 6, 0, 0, 1, 1)
	return a, []int{math.MinInt, -4, -1, 2, 3, 4, 5, 6, 20, 21, api.MaxArena, api.MaxArena + 1, math.MaxInt}
}

// P8.1: what is neither 0 nor a node, on one side or on both, whether or not
// there is room.
func TestNoTreap(t *testing.T) {
	for _, room := range []int{0, 1, 30} {
		a, wrong := odd(t, room)
		for _, id := range wrong {
			for _, other := range append(wrong, 0, 1) {
				refused(t, a, id, other, api.ErrArg)
				refused(t, a, other, id, api.ErrArg)
				allRefused(t, a, []int{id, other}, api.ErrArg)
				allRefused(t, a, []int{0, other, 0, id}, api.ErrArg)
			}
			allRefused(t, a, []int{id}, api.ErrArg)
		}
		one(t, a, 0, 1, nil, []api.Pair{{Key: 5, Val: 6}})
		one(t, a, 1, 0, []api.Pair{{Key: 5, Val: 6}}, nil)
		if a.Used() != 4 || a.Steps() != 0 {
			t.Errorf("%d records, %d steps", a.Used(), a.Steps())
		}
	}
}

// P8.1: no arena; also where nothing is to be joined.
func TestNil(t *testing.T) {
	some := []int{math.MinInt, -1, 0, 1, 2, math.MaxInt}
	for _, x := range some {
		for _, y := range some {
			refused(t, nil, x, y, api.ErrArg)
			allRefused(t, nil, []int{x, y}, api.ErrArg)
		}
		allRefused(t, nil, []int{x}, api.ErrArg)
	}
	allRefused(t, nil, nil, api.ErrArg)
	allRefused(t, nil, []int{}, api.ErrArg)
}

// R6: a treap is one of its own arena: what is done in another one doesn't
// matter.
func TestTwoArenas(t *testing.T) {
	l, m := pairs(1, 2, 9), pairs(30, 5, 4)
	a, x := treapsOf(t, 100, l, m)
	b, y := treapsOf(t, 100, m[:2], m[2:])
	for range 3 {
		one(t, a, x[0], x[1], l, m)
		one(t, b, y[0], y[1], m[:2], m[2:])
	}
	refused(t, arena.New(20), x[0], x[1], api.ErrArg)
}

// fullAt joins two treaps with less room than that takes, with just that, and
// with as much as both are High together.
func fullAt(t *testing.T, l, m []api.Pair) {
	t.Helper()
	wide, ids := treapsOf(t, 1000, l, m)
	one(t, wide, ids[0], ids[1], l, m)
	takes := wide.Used() - len(l) - len(m)
	for room := range takes {
		a, ids := treapsOf(t, room, l, m)
		refused(t, a, ids[0], ids[1], api.ErrFull)
		if !areOf(a, ids, [][]api.Pair{l, m}) || a.Steps() != 0 {
			t.Errorf("%v and %v with room for %d: they are not as they were", l, m, room)
		}
	}
	for _, room := range []int{takes, look.High(wide, ids[0]) + look.High(wide, ids[1])} {
		a, ids := treapsOf(t, room, l, m)
		one(t, a, ids[0], ids[1], l, m)
	}
}

// P8.1, P8.2: an arena that is full, or becomes full on the way: with whatever
// room there is, all is done or nothing; with both High it is done.
func TestFull(t *testing.T) {
	for _, l := range lists() {
		for i := range len(l) + 1 {
			if len(l) < 30 || i%7 == 0 {
				fullAt(t, l[:i], l[i:])
			}
		}
	}
	a, ids := treapsOf(t, 0, pairs(0, 1, 5), pairs(5, 1, 5))
	refused(t, a, ids[0], ids[1], api.ErrFull)
}

// cutIn is a list in pieces of that many, the last one of what is left, with an
// empty piece behind every other one.
func cutIn(l []api.Pair, many int) [][]api.Pair {
	var rows [][]api.Pair
	for i := 0; i < len(l); i += many {
		rows = append(rows, l[i:min(i+many, len(l))])
		if i/many%2 == 0 {
			rows = append(rows, nil)
		}
	}
	return rows
}

// joinedBy is what Two of the first one and the next, and so on, tells: the
// treap, or the first error.
func joinedBy(a *arena.Arena, l []int) (int, api.Errno) {
	u, e := Two(a, 0, l[0])
	for _, id := range l[1:] {
		if e == api.OK {
			u, e = Two(a, u, id)
		}
	}
	return u, e
}

// P8.1: All of none, and of one alone.
func TestAllFew(t *testing.T) {
	for _, l := range lists() {
		a, ids := treapsOf(t, 0, l)
		for _, row := range [][]int{ids, {ids[0], 0}, {0, ids[0]}, {0, 0, ids[0], 0}} {
			if u, e := All(a, row...); u != ids[0] || e != api.OK {
				t.Errorf("%v alone, as %v: %d, %d", l, row, u, e)
			}
		}
	}
	for _, row := range [][]int{nil, {}, {0}, {0, 0}, {0, 0, 0}} {
		for _, a := range []*arena.Arena{{}, arena.New(0), arena.New(9)} {
			if u, e := All(a, row...); u != 0 || e != api.OK || a.Used() != 0 {
				t.Errorf("%v: %d, %d", row, u, e)
			}
		}
	}
}

// P8.1, P8.2, R2: All of many in a row, with nothing among them: it is one treap,
// all others and the row stay, it takes what Two after Two takes, and is refused
// where that is.
func TestAllMany(t *testing.T) {
	for _, l := range lists() {
		for many := 1; many < 8 && len(l) > 0; many++ {
			rows := cutIn(l, many)
			twin, ids := treapsOf(t, 20000, rows...)
			u, e := joinedBy(twin, ids)
			takes := twin.Used() - len(l)
			if e != api.OK || !isOf(twin, u, l) {
				t.Errorf("%v, Two after Two: %d, %d", rows, u, e)
			}
			a, ids := treapsOf(t, takes, rows...)
			was := slices.Clone(ids)
			u, e = All(a, ids...)
			if e != api.OK || !isOf(a, u, l) || !areOf(a, ids, rows) || !slices.Equal(ids, was) || a.Steps() != 0 {
				t.Errorf("%v with room for %d: %d, %d", rows, takes, u, e)
			}
			for room := max(0, takes-9); room < takes; room++ {
				a, ids := treapsOf(t, room, rows...)
				allRefused(t, a, ids, api.ErrFull)
				if !areOf(a, ids, rows) || a.Steps() != 0 {
					t.Errorf("%v with room for %d: they are not as they were", rows, room)
				}
			}
		}
	}
}

// P8.1, R4: something wrong at each place of a row, with each room: the first
// error is told, as by Two after Two, and where that is ErrArg nothing was made.
func TestAllFirstError(t *testing.T) {
	for _, l := range [][]api.Pair{pairs(0, 2, 12), pairs(-7, 1, 12), ends(), mixed(3, 12, 0)} {
		rows := cutIn(l, 2)
		for _, wrong := range []int{-1, 1000, 1, len(l), 2, 0} {
			for at := range len(rows) + 1 {
				for room := range 30 {
					twin, ids := treapsOf(t, room, rows...)
					row := slices.Insert(ids, at, wrong)
					_, want := joinedBy(twin, row)
					a, _ := treapsOf(t, room, rows...)
					if want != api.OK {
						allRefused(t, a, row, want)
					} else if u, e := All(a, row...); e != api.OK || look.Size(a, u) != look.Size(twin, u) {
						t.Errorf("%d at %d with room for %d: %d, %d", wrong, at, room, u, e)
					}
					if !areOf(a, slices.Delete(row, at, at+1), rows) || a.Steps() != 0 {
						t.Errorf("%d at %d with room for %d: they are not as they were", wrong, at, room)
					}
				}
			}
		}
	}
}

// P8.1: All of treaps in the wrong order: the last two turned, the first two,
// the first and the last, and one that stands twice with others between.
func TestAllWrongOrder(t *testing.T) {
	a, x := treapsOf(t, 200, pairs(0, 3, 4), pairs(20, 3, 1), pairs(40, 3, 5), pairs(60, 3, 2))
	for _, row := range [][]int{
		{x[0], x[1], x[3], x[2]}, {x[1], x[0], x[2], x[3]}, {x[3], x[1], x[2], x[0]}, {x[3], x[2], x[1], x[0]},
		{x[0], x[1], x[0]}, {x[0], 0, x[0]}, {x[0], x[1], 0, x[1], x[2]}, {x[1], 0, 0, x[0]},
	} {
		allRefused(t, a, row, api.ErrArg)
	}
}

// handmade is the treap of pairs whose keys rise, of records that were made by
// hand: where nothing is to hang, that hangs there (0: the record itself).
func handmade(t *testing.T, a *arena.Arena, l []api.Pair, hung int) int {
	t.Helper()
	i := above(l)
	sides := [2]int{hung, hung}
	for side, m := range [][]api.Pair{l[:i], l[i+1:]} {
		if len(m) > 0 {
			sides[side] = handmade(t, a, m, hung)
		}
	}
	id := a.Used() + 1
	for side, on := range sides {
		if on == 0 {
			sides[side] = id
		}
	}
	high := 1 + max(look.High(a, sides[0]), look.High(a, sides[1]))
	byHand(t, a, id, 1, l[i].Key, l[i].Val, sides[0], sides[1], len(l), high)
	return id
}

// told is the pairs of a treap, from left to right, without what counts as
// nothing.
func told(a *arena.Arena, id int) []api.Pair {
	n, ok := node.Get(a, id)
	if !ok {
		return nil
	}
	var left, right []api.Pair
	if n.Left < id {
		left = told(a, n.Left)
	}
	if n.Right < id {
		right = told(a, n.Right)
	}
	return slices.Concat(left, []api.Pair{n.Pair}, right)
}

// Layer 3's words: what hangs on a record that was made by hand, and isn't a
// node, or hasn't a lower number, counts as nothing, and does so in the joined
// one, whose numbers are higher.
func TestHung(t *testing.T) {
	for _, hung := range []int{math.MinInt, -1, 0, 2, 3, 4, 50, 51, 61, 100, math.MaxInt} {
		for n := 2; n < 40; n++ {
			for _, i := range []int{1, n / 2, n - 1} {
				l := pairs(100*n, 7, n)
				a, _ := odd(t, 100)
				x := handmade(t, a, l[:i], hung)
				y := handmade(t, a, l[i:], hung)
				for a.Used() < 60 {
					makeOne(t, a, api.Pair{Key: a.Used(), Val: 1}, 0, 0)
				}
				u, e := Two(a, x, y)
				if e != api.OK || look.Size(a, u) != n || !slices.Equal(told(a, u), l) {
					t.Errorf("hung %d: %v at %d: %d, %v", hung, l, i, e, told(a, u))
				}
				v, e := All(a, x, y)
				if e != api.OK || !slices.Equal(told(a, v), l) || !slices.Equal(told(a, x), l[:i]) || !slices.Equal(told(a, y), l[i:]) {
					t.Errorf("hung %d: all of %v at %d: %d, %v", hung, l, i, e, told(a, v))
				}
			}
		}
	}
}

// P8.1: records that say anything and hang on one another in rings, among cells
// and other records, with much room and with little: every call ends, without a
// panic, and tells one error at most, and nothing beside it; what was there
// stays.
func TestRings(t *testing.T) {
	for seed := range 3000 {
		next := rule(seed)
		in := func(lo, hi int) int { return lo + int(uint(next())%uint(hi-lo)) }
		many := in(1, 9)
		a := arena.New(many + in(0, 12)*in(0, 12))
		for id := 1; id <= many; id++ {
			if kind := in(0, 8); kind == 0 {
				a.Cell(in(-2, many+3))
			} else {
				kind = max(1, kind-5)
				byHand(t, a, id, kind, in(-3, 8), next(), in(-2, many+4), in(-2, many+4), next()>>in(0, 63), next()>>in(0, 63))
			}
		}
		was := said(a, many)
		for x := -1; x <= many+1; x++ {
			for y := -1; y <= many+1; y++ {
				endsWell(t, a, x, y)
			}
		}
		if !slices.Equal(was, said(a, many)) || a.Steps() != 0 {
			t.Errorf("seed %d: what was there is not as it was", seed)
		}
	}
}

// said is what the first records say.
func said(a *arena.Arena, many int) []int {
	var l []int
	for id := 1; id <= many; id++ {
		l = append(l, a.Kind(id))
		for i := range api.MaxVals {
			l = append(l, a.Val(id, i))
		}
	}
	return l
}

// isTreap says whether id is nothing, or a node.
func isTreap(a *arena.Arena, id int) bool {
	return id == 0 || a.Kind(id) == node.Kind
}

// endsWell fails where a call on whatever tells what no call may tell.
func endsWell(t *testing.T, a *arena.Arena, x, y int) {
	t.Helper()
	last, okLeft := look.Max(a, x)
	first, okRight := look.Min(a, y)
	wrong := !isTreap(a, x) || !isTreap(a, y) || okLeft && okRight && last.Key >= first.Key
	u, e := Two(a, x, y)
	switch {
	case e != api.OK && u != 0, !isTreap(a, u):
		t.Errorf("%d and %d: %d, %d", x, y, u, e)
	case wrong != (e == api.ErrArg), e != api.OK && e != api.ErrArg && e != api.ErrFull:
		t.Errorf("%d and %d: error %d", x, y, e)
	}
	u, e = All(a, x, y, x)
	if e != api.OK && u != 0 || !isTreap(a, u) || wrong && e != api.ErrArg {
		t.Errorf("all of %d, %d, %d: %d, %d", x, y, x, u, e)
	}
}

// chain is a treap by hand that is one long way down, from the key top to the
// key bottom, through all between; values are the keys.
func chain(t *testing.T, a *arena.Arena, top, bottom int) int {
	t.Helper()
	id := 0
	if top < bottom {
		for key := bottom; key >= top; key-- {
			id = makeOne(t, a, api.Pair{Key: key, Val: key}, 0, id)
		}
		return id
	}
	for key := bottom; key <= top; key++ {
		id = makeOne(t, a, api.Pair{Key: key, Val: key}, id, 0)
	}
	return id
}

// R3: ways down as long as an arena has room for, which face one another, and
// longer ones. They are no treaps that may be, but every call ends.
func TestLong(t *testing.T) {
	for _, many := range []int{api.MaxArena / 4, api.MaxArena/2 - 2} {
		a := arena.New(math.MaxInt)
		x, y := chain(t, a, 1, many), chain(t, a, 2*many, many+1)
		u, e := Two(a, x, y)
		v, f := All(a, x, y)
		if !isTreap(a, u) || !isTreap(a, v) || e == api.ErrArg || f == api.ErrArg {
			t.Errorf("%d keys each: %d, %d; %d, %d", many, u, e, v, f)
		}
		if e != api.OK && u != 0 || f != api.OK && v != 0 || look.Size(a, x) != many || look.Size(a, y) != many {
			t.Errorf("%d keys each: %d, %d; %d, %d", many, u, e, v, f)
		}
	}
}
