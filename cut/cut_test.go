package cut

import (
	"maps"
	"math"
	"slices"
	"testing"

	"osier/api"
	"osier/arena"
	"osier/look"
	"osier/node"
	"osier/put"
)

// treapOf is an arena with the treap of those pairs, and that much room left.
func treapOf(t *testing.T, room int, l []api.Pair) (*arena.Arena, int) {
	t.Helper()
	wide := arena.New(math.MaxInt)
	laid(t, wide, l)
	a := arena.New(wide.Used() + room)
	return a, laid(t, a, l)
}

// laid is the treap of those pairs.
func laid(t *testing.T, a *arena.Arena, l []api.Pair) int {
	t.Helper()
	id, e := put.Of(a, l...)
	if e != api.OK {
		t.Fatalf("Of(%v): error %d", l, e)
	}
	return id
}

// isOf says whether id is just the treap of those pairs.
func isOf(t *testing.T, a *arena.Arena, id int, l []api.Pair) bool {
	t.Helper()
	b, want := treapOf(t, 0, l)
	return same(a, id, b, want)
}

// same says whether two treaps say the same, node by node, and whether numbers
// fall on every way down the first one.
func same(a *arena.Arena, t int, b *arena.Arena, u int) bool {
	n, ok := node.Get(a, t)
	m, there := node.Get(b, u)
	if !ok || !there {
		return t == 0 && u == 0
	}
	return n.Pair == m.Pair && n.Size == m.Size && n.High == m.High &&
		n.Left < t && n.Right < t && same(a, n.Left, b, m.Left) && same(a, n.Right, b, m.Right)
}

// pairs is so many pairs: keys rise by a number, values fall and come to 0.
func pairs(from, by, n int) []api.Pair {
	var l []api.Pair
	for i := range n {
		l = append(l, api.Pair{Key: from + i*by, Val: 3 - i})
	}
	return l
}

// sorted is the pairs of a plain map, by key.
func sorted(m map[int]int) []api.Pair {
	var l []api.Pair
	for _, key := range slices.Sorted(maps.Keys(m)) {
		l = append(l, api.Pair{Key: key, Val: m[key]})
	}
	return l
}

// rule is numbers that go all over int, one after the other.
func rule(seed int) func() int {
	x := uint64(seed)
	return func() int {
		x += 0x9e3779b97f4a7c15
		return int((x ^ x>>29) * 0xbf58476d1ce4e5b9)
	}
}

// less is a list without the pair of that key, that pair, and whether there was
// one.
func less(l []api.Pair, key int) ([]api.Pair, api.Pair, bool) {
	i := slices.IndexFunc(l, func(p api.Pair) bool { return p.Key == key })
	if i < 0 {
		return l, api.Pair{}, false
	}
	return slices.Concat(l[:i], l[i+1:]), l[i], true
}

// one cuts a key out of the treap id of pairs l, and fails where something else
// is told, too many records are made, or l's treap or a cell is touched.
func one(t *testing.T, a *arena.Arena, id int, l []api.Pair, key int) int {
	t.Helper()
	used, high := a.Used(), look.High(a, id)
	rest, old, there := less(l, key)
	u, v, ok, e := Cut(a, id, key)
	if v != old.Val || ok != there || e != api.OK {
		t.Errorf("%d of %v: %d, %v, %d, not %d, %v", key, l, v, ok, e, old.Val, there)
	}
	if !isOf(t, a, u, rest) {
		t.Errorf("%d of %v: not the treap of %v", key, l, rest)
	}
	if !isOf(t, a, id, l) {
		t.Errorf("%d of %v: that is not as it was", key, l)
	}
	if made := a.Used() - used; made > 2*high || a.Steps() != 0 {
		t.Errorf("%d of %v: %d records, %d steps", key, l, made, a.Steps())
	}
	if !there && (u != id || a.Used() != used) {
		t.Errorf("%d of %v: %d, not %d itself", key, l, u, id)
	}
	return u
}

// refused fails where a call tells another error than that, or anything beside
// it, or makes something beside ErrArg.
func refused(t *testing.T, a *arena.Arena, id, key int, want api.Errno) {
	t.Helper()
	used := a.Used()
	u, v, ok, e := Cut(a, id, key)
	if u != 0 || v != 0 || ok || e != want {
		t.Errorf("%d of treap %d: %d, %d, %v, %d, not error %d", key, id, u, v, ok, e, want)
	}
	if want == api.ErrArg && a.Used() != used {
		t.Errorf("%d of treap %d: made something", key, id)
	}
}

// far is keys at the ends and in the middle of int.
var far = []int{math.MinInt, math.MinInt + 1, -1, 0, 1, 5, math.MaxInt - 1, math.MaxInt}

// P6.1: the chapter's example: Cut of nothing: nothing; also where there is no
// room, or never was any.
func TestExample(t *testing.T) {
	for _, a := range []*arena.Arena{arena.New(9), arena.New(0), {}} {
		for _, key := range far {
			if u, v, ok, e := Cut(a, 0, key); u != 0 || v != 0 || ok || e != api.OK || a.Used() != 0 {
				t.Errorf("%d of nothing: %d, %d, %v, %d", key, u, v, ok, e)
			}
		}
	}
}

// P6.1: treaps of all small sizes, and some greater ones: each key that is
// there, and keys below, between and above those.
func TestKeys(t *testing.T) {
	for n := range 40 {
		keysOf(t, pairs(-20, 3, n))
	}
	keysOf(t, pairs(7, 1, 100))
	keysOf(t, pairs(-1000, 11, 200))
}

// keysOf cuts keys out of the treap of those pairs, each out of that one.
func keysOf(t *testing.T, l []api.Pair) {
	t.Helper()
	keys := slices.Clone(far)
	for _, p := range l {
		keys = append(keys, p.Key-1, p.Key, p.Key+1)
	}
	a, id := treapOf(t, 20000, l)
	for _, key := range keys {
		one(t, a, id, l, key)
	}
}

// P6.1: keys and values at the ends of int.
func TestEnds(t *testing.T) {
	l := []api.Pair{
		{Key: math.MinInt, Val: math.MaxInt}, {Key: math.MinInt + 1, Val: math.MinInt},
		{Key: -1, Val: 1}, {Key: 0, Val: 0}, {Key: 1, Val: -1},
		{Key: math.MaxInt - 1, Val: math.MinInt}, {Key: math.MaxInt, Val: math.MaxInt},
	}
	for from := range l {
		for to := from; to <= len(l); to++ {
			keysOf(t, l[from:to])
		}
	}
}

// P6.1: a value of 0 is told as there.
func TestValueZero(t *testing.T) {
	keysOf(t, []api.Pair{{Key: -2}, {Key: 0}, {Key: 2}})
	a, id := treapOf(t, 0, []api.Pair{{Key: 7}})
	if u, v, ok, e := Cut(a, id, 7); u != 0 || v != 0 || !ok || e != api.OK {
		t.Errorf("the last key: %d, %d, %v, %d", u, v, ok, e)
	}
}

// P6.1: the key of the top, of a node on which none, a left one, a right one or
// two hang, at the top and below it: the rows hold each of these.
func TestPlaces(t *testing.T) {
	met := map[[3]bool]int{}
	for n := range 30 {
		for from := range 10 {
			l := pairs(from*100, 7, n)
			a, id := treapOf(t, 5000, l)
			for i := 1; i <= a.Used() && id != 0; i++ {
				m, _ := node.Get(a, i)
				if i == id || hangsOn(a, id, i) {
					met[[3]bool{i == id, m.Left != 0, m.Right != 0}]++
				}
			}
			for _, p := range l {
				one(t, a, id, l, p.Key)
			}
		}
	}
	if len(met) != 8 {
		t.Errorf("not all places were met: %v", met)
	}
}

// hangsOn says whether the node i hangs on t, or on what hangs there.
func hangsOn(a *arena.Arena, t, i int) bool {
	n, ok := node.Get(a, t)
	return ok && (n.Left == i || n.Right == i || hangsOn(a, n.Left, i) || hangsOn(a, n.Right, i))
}

// P6.1, P6.2: long rows of keys put and cut, each on one of the treaps that came
// of those before: all treaps stay as they were, to the end.
func TestRows(t *testing.T) {
	type was struct {
		id   int
		says map[int]int
	}
	for seed := range 30 {
		a := arena.New(math.MaxInt)
		next := rule(seed)
		all := []was{{0, map[int]int{}}}
		for range 150 {
			from := all[len(all)-1-int(uint(next())%uint(min(len(all), 1+seed%4)))]
			p := api.Pair{Key: next() >> (57 + seed%5), Val: next()}
			says := maps.Clone(from.says)
			var id int
			if next()>>40&1 == 0 {
				id, _, _, _ = put.Put(a, from.id, p)
				says[p.Key] = p.Val
			} else {
				id = one(t, a, from.id, sorted(from.says), p.Key)
				delete(says, p.Key)
			}
			all = append(all, was{id, says})
		}
		for _, w := range all {
			if !isOf(t, a, w.id, sorted(w.says)) {
				t.Errorf("row %d: treap %d is not as it was", seed, w.id)
			}
		}
	}
}

// P6.2: what is put and cut again is the same treap, node by node, and what is
// cut and put again.
func TestPutAndCut(t *testing.T) {
	for n := range 40 {
		l := pairs(-30, 2, n)
		a, id := treapOf(t, 20000, l)
		for key := -35; key < 2*n-25; key++ {
			_, p, there := less(l, key)
			u, v := id, id
			if there {
				u, _, _, _ = Cut(a, id, key)
				v, _, _, _ = put.Put(a, u, p)
			} else {
				u, _, _, _ = put.Put(a, id, api.Pair{Key: key, Val: 1000})
				v, _, _, _ = Cut(a, u, key)
			}
			if same(a, u, a, id) || !same(a, v, a, id) {
				t.Errorf("%d of %v: not the same treap again", key, l)
			}
		}
	}
}

// P6.1, P6.2: all keys cut, in every order there is, leave nothing.
func TestAllOrders(t *testing.T) {
	for _, l := range [][]api.Pair{
		pairs(1, 1, 6),
		{{Key: math.MinInt, Val: 1}, {Key: -1, Val: 2}, {Key: 0, Val: 3}, {Key: 1, Val: 4}, {Key: math.MaxInt, Val: 5}},
		{{Key: 2, Val: 5}, {Key: 30, Val: 5}, {Key: 31, Val: 5}, {Key: 400, Val: 5}, {Key: 5000, Val: 5}, {Key: 5001, Val: 5}},
	} {
		orders(l, 0, func(m []api.Pair) { allCut(t, l, m) })
	}
}

// orders goes through all orders of a list from a place on.
func orders(l []api.Pair, from int, do func([]api.Pair)) {
	if from == len(l) {
		do(l)
		return
	}
	m := slices.Clone(l)
	for i := from; i < len(m); i++ {
		m[from], m[i] = m[i], m[from]
		orders(m, from+1, do)
	}
}

// allCut cuts all keys of the treap of l, in the order of m.
func allCut(t *testing.T, l, m []api.Pair) {
	t.Helper()
	a, id := treapOf(t, 20000, l)
	for _, p := range m {
		id = one(t, a, id, l, p.Key)
		l, _, _ = less(l, p.Key)
	}
	if id != 0 || len(l) != 0 {
		t.Errorf("%v cut: %d is left", m, id)
	}
}

// P6.1, P6.2: many keys cut, rising, falling and mixed.
func TestManyOrders(t *testing.T) {
	for seed := range 10 {
		next := rule(seed)
		m := map[int]int{}
		for range 60 {
			m[next()>>(seed*5)] = next()
		}
		l := sorted(m)
		falling, mixed := slices.Clone(l), slices.Clone(l)
		slices.Reverse(falling)
		for i := range mixed {
			k := int(uint(next()) % uint(i+1))
			mixed[i], mixed[k] = mixed[k], mixed[i]
		}
		for _, o := range [][]api.Pair{l, falling, mixed} {
			allCut(t, l, o)
		}
	}
}

// odd is an arena with a node (1), a cell that holds the node's number (2), and
// records of other kinds that say what the node says (3, 4), with that much room
// left; and the numbers in it that no treap has.
func odd(t *testing.T, room int) (*arena.Arena, []int) {
	t.Helper()
	a := arena.New(4 + room)
	byHand(t, a, 1, 1, 5, 6, 0, 0, 1, 1)
	if id, e := a.Cell(1); id != 2 || e != api.OK {
		t.Fatalf("the cell: %d, %d", id, e)
	}
	byHand(t, a, 3, 2, 5, 6, 0, 0, 1, 1)
	byHand(t, a, 4, math.MaxInt, 5, 6, 0, 0, 1, 1)
	return a, []int{math.MinInt, -4, -1, 2, 3, 4, 5, 6, 20, 21, api.MaxArena, api.MaxArena + 1, math.MaxInt}
}

// byHand makes a record, and fails where it doesn't get that number.
func byHand(t *testing.T, a *arena.Arena, want, kind int, vals ...int) {
	t.Helper()
	if id, e := a.Make(kind, vals...); id != want || e != api.OK {
		t.Fatalf("a record of kind %d: %d, %d, not %d", kind, id, e, want)
	}
}

// P6.1: what is neither 0 nor a node, whether or not there is room; a node among
// such things, and nothing at all.
func TestNoTreap(t *testing.T) {
	for _, room := range []int{0, 1, 30} {
		a, wrong := odd(t, room)
		for _, id := range wrong {
			for _, key := range far {
				refused(t, a, id, key, api.ErrArg)
			}
		}
		for _, key := range far {
			one(t, a, 1, []api.Pair{{Key: 5, Val: 6}}, key)
			one(t, a, 0, nil, key)
		}
		if a.Used() != 4 || a.Steps() != 0 {
			t.Errorf("%d records, %d steps", a.Used(), a.Steps())
		}
	}
	refused(t, &arena.Arena{}, 1, 0, api.ErrArg)
}

// P6.1: no arena.
func TestNil(t *testing.T) {
	for _, id := range []int{math.MinInt, -1, 0, 1, 2, math.MaxInt} {
		for _, key := range far {
			refused(t, nil, id, key, api.ErrArg)
		}
	}
}

// R6: a treap is one of its own arena: what is done in another one doesn't
// matter.
func TestTwoArenas(t *testing.T) {
	l, m := pairs(1, 2, 9), pairs(-30, 5, 4)
	a, id := treapOf(t, 200, l)
	b, other := treapOf(t, 200, m)
	for key := -30; key < 20; key++ {
		one(t, a, id, l, key)
		one(t, b, other, m, key)
	}
	refused(t, arena.New(20), id, 1, api.ErrArg)
}

// P6.1, P6.2: an arena that is full, or becomes full on the way: with whatever
// room there is, all is done or nothing; with 2 High it is done. A key that is
// not there needs no room.
func TestFull(t *testing.T) {
	for _, n := range []int{1, 2, 3, 5, 8, 20, 60} {
		l := pairs(0, 2, n)
		for key := -1; key <= 2*n; key++ {
			fullAt(t, l, key)
		}
	}
}

// fullAt cuts a key with less room than it takes, with just that, and with
// 2 High.
func fullAt(t *testing.T, l []api.Pair, key int) {
	t.Helper()
	wide, id := treapOf(t, 1000, l)
	used := wide.Used()
	one(t, wide, id, l, key)
	takes := wide.Used() - used
	for room := range takes {
		a, id := treapOf(t, room, l)
		refused(t, a, id, key, api.ErrFull)
		if !isOf(t, a, id, l) || a.Steps() != 0 {
			t.Errorf("%d with room for %d: %v is not as it was", key, room, l)
		}
	}
	for _, room := range []int{takes, 2 * look.High(wide, id)} {
		a, id := treapOf(t, room, l)
		one(t, a, id, l, key)
	}
}

// P6.1: of the treap of 0 to 9, in a full arena: what is below the top is
// refused, for the top must be copied.
func TestFullBelowTheTop(t *testing.T) {
	l := pairs(0, 1, 10)
	a, id := treapOf(t, 0, l)
	top, _ := node.Get(a, id)
	for key := range 10 {
		if key != top.Key {
			refused(t, a, id, key, api.ErrFull)
		}
	}
	for _, key := range []int{-1, 10, math.MaxInt} {
		one(t, a, id, l, key)
	}
}

// P6.2: treaps of whatever keys: 2 High records are enough for each cut.
func TestRoom(t *testing.T) {
	for seed := range 20 {
		next := rule(seed)
		m := map[int]int{}
		for range 50 {
			m[next()>>(seed*3)] = next()
			l := sorted(m)
			key := l[int(uint(next())%uint(len(l)))].Key
			wide, id := treapOf(t, 0, l)
			a, id := treapOf(t, 2*look.High(wide, id), l)
			one(t, a, id, l, key)
		}
	}
}

// Layer 3's words: what hangs on a record that was made by hand, and isn't a
// node, or hasn't a lower number, counts as nothing, and does so in what comes
// of it, whose numbers are higher.
func TestHung(t *testing.T) {
	_, wrong := odd(t, 9)
	p := api.Pair{Key: 50, Val: 60}
	for _, hung := range append(wrong, 7) {
		alone := withHung(t, hung, hung)
		if u, v, ok, e := Cut(alone, 5, 50); u != 0 || v != 60 || !ok || e != api.OK {
			t.Errorf("hung %d: the only key cut: %d, %d, %v, %d", hung, u, v, ok, e)
		}
		a := withHung(t, 1, hung)
		if u, v, ok, e := Cut(a, 5, 50); u != 1 || v != 60 || !ok || e != api.OK {
			t.Errorf("hung %d: the upper key cut: %d, %d, %v, %d", hung, u, v, ok, e)
		}
		u, v, ok, e := Cut(a, 5, 5)
		if v != 6 || !ok || e != api.OK || !isOf(t, a, u, []api.Pair{p}) {
			t.Errorf("hung %d: the lower key cut: %d, %d, %v, %d", hung, u, v, ok, e)
		}
		for _, key := range []int{4, 6, 49, 51, 70} {
			if u, v, ok, e := Cut(a, 5, key); u != 5 || v != 0 || ok || e != api.OK {
				t.Errorf("hung %d: %d cut: %d, %d, %v, %d", hung, key, u, v, ok, e)
			}
		}
	}
}

// withHung is odd's arena with a record by hand (5), of the key 50, on which
// those two hang, and two nodes of the key 70 (6, 7).
func withHung(t *testing.T, left, right int) *arena.Arena {
	t.Helper()
	a, _ := odd(t, 30)
	byHand(t, a, 5, 1, 50, 60, left, right, 1, 1)
	byHand(t, a, 6, 1, 70, 1, 0, 0, 1, 1)
	byHand(t, a, 7, 1, 70, 2, 0, 0, 1, 1)
	return a
}

// Layer 3's words, of what hangs below the key that is cut: there, too, it
// counts as nothing, in the copies of both sides.
func TestHungBelow(t *testing.T) {
	a := arena.New(30)
	byHand(t, a, 1, 1, 10, 1, 5, 6, 1, 1)
	byHand(t, a, 2, 1, 30, 3, 5, 6, 1, 1)
	byHand(t, a, 3, 1, 20, 2, 1, 2, 3, 2)
	byHand(t, a, 4, 1, 40, 4, 3, 7, 4, 3)
	for id := 5; id <= 9; id++ {
		byHand(t, a, id, 1, 70+id, 9, 0, 0, 1, 1)
	}
	u, v, ok, e := Cut(a, 4, 20)
	if v != 2 || !ok || e != api.OK || look.Size(a, u) != 3 {
		t.Errorf("20 cut: %d, %d, %v, %d", look.Size(a, u), v, ok, e)
	}
	for _, p := range []api.Pair{{Key: 10, Val: 1}, {Key: 30, Val: 3}, {Key: 40, Val: 4}} {
		if v, ok := look.Get(a, u, p.Key); v != p.Val || !ok {
			t.Errorf("of what is left %d has %d, %v", p.Key, v, ok)
		}
	}
	for id := 5; id <= 9; id++ {
		if _, ok := look.Get(a, u, 70+id); ok {
			t.Errorf("%d came to be there", 70+id)
		}
	}
}

// P6.1: records that say anything and hang on one another in rings, among cells
// and other records, with much room and with little: every call ends, without a
// panic, and tells one error at most, and nothing beside it; what was there
// stays.
func TestRings(t *testing.T) {
	for seed := range 5000 {
		next := rule(seed)
		in := func(lo, hi int) int { return lo + int(uint(next())%uint(hi-lo)) }
		many := in(1, 9)
		a := arena.New(many + in(0, 12)*in(0, 12))
		for id := 1; id <= many; id++ {
			if kind := in(0, 8); kind == 0 {
				a.Cell(in(-2, many+3))
			} else {
				kind = max(1, kind-5)
				byHand(t, a, id, kind, in(-3, 8), next(), in(-2, many+4), in(-2, many+4), next()>>in(0, 63), next()>>in(0, 63))
			}
		}
		was := said(a, many)
		for id := -1; id <= many+1; id++ {
			for key := -4; key < 9; key++ {
				ends(t, a, id, key)
			}
		}
		if !slices.Equal(was, said(a, many)) || a.Steps() != 0 {
			t.Errorf("seed %d: what was there is not as it was", seed)
		}
	}
}

// said is what the first records say.
func said(a *arena.Arena, many int) []int {
	var l []int
	for id := 1; id <= many; id++ {
		l = append(l, a.Kind(id))
		for i := range api.MaxVals {
			l = append(l, a.Val(id, i))
		}
	}
	return l
}

// ends fails where a call on whatever tells what no call may tell.
func ends(t *testing.T, a *arena.Arena, id, key int) {
	t.Helper()
	used := a.Used()
	isTreap := id == 0 || a.Kind(id) == node.Kind
	old, there := look.Get(a, id, key)
	u, v, ok, e := Cut(a, id, key)
	switch {
	case e != api.OK && (u != 0 || v != 0 || ok):
		t.Errorf("%d of treap %d: %d, %d, %v beside error %d", key, id, u, v, ok, e)
	case isTreap == (e == api.ErrArg):
		t.Errorf("%d of treap %d: error %d", key, id, e)
	case isTreap && !there && (u != id || v != 0 || ok || e != api.OK || a.Used() != used):
		t.Errorf("%d of treap %d: %d, %d, %v, %d", key, id, u, v, ok, e)
	case there && e == api.OK && (v != old || !ok || u != 0 && a.Kind(u) != node.Kind):
		t.Errorf("%d of treap %d: %d, %d, %v", key, id, u, v, ok)
	case there && e != api.OK && e != api.ErrFull:
		t.Errorf("%d of treap %d: error %d", key, id, e)
	}
}

// chain is a treap by hand that is one long way down, from the key top to the
// key bottom, through all between; values are the keys.
func chain(t *testing.T, a *arena.Arena, top, bottom int) int {
	t.Helper()
	by := 1
	if top < bottom {
		by = -1
	}
	id := 0
	for key := bottom; key != top+by; key += by {
		left, right := id, 0
		if by < 0 {
			left, right = 0, id
		}
		var e api.Errno
		if id, e = node.Make(a, api.Pair{Key: key, Val: key}, left, right); e != api.OK {
			t.Fatalf("the chain: error %d", e)
		}
	}
	return id
}

// P6.1: ways down as long as an arena has room for, and longer ones: the key at
// their end is cut.
func TestLong(t *testing.T) {
	const many = api.MaxArena / 2
	for _, side := range []int{-1, 1} {
		a := arena.New(math.MaxInt)
		id := chain(t, a, side, side*many)
		u, v, ok, e := Cut(a, id, side*many)
		if v != side*many || !ok || e != api.OK || look.Size(a, u) != many-1 || look.High(a, u) != many-1 {
			t.Errorf("the farthest key: %d, %v, %d, %d left", v, ok, e, look.Size(a, u))
		}
		b := arena.New(math.MaxInt)
		refused(t, b, chain(t, b, side, side*(many+2)), side*(many+2), api.ErrFull)
	}
}

// P6.1: two ways as long as an arena has room for, which face one another below
// one key, and come together where that one is cut.
func TestLongJoined(t *testing.T) {
	const many = api.MaxArena/4 - 1
	a := arena.New(math.MaxInt)
	left := chain(t, a, -many, -1)
	right := chain(t, a, many, 1)
	id, e := node.Make(a, api.Pair{}, left, right)
	if e != api.OK {
		t.Fatalf("the top: error %d", e)
	}
	u, _, ok, e := Cut(a, id, 0)
	if !ok || e != api.OK || look.Size(a, u) != 2*many {
		t.Fatalf("the top: %v, %d, %d left", ok, e, look.Size(a, u))
	}
	for key := -many; key <= many; key += 101 {
		if v, there := look.Get(a, u, key); v != key || there != (key != 0) {
			t.Errorf("%d has %d, %v", key, v, there)
		}
	}
}
