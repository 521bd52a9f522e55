package sound

import (
	"cmp"
	"maps"
	"math"
	"slices"
	"testing"

	"osier/api"
	"osier/arena"
	"osier/cut"
	"osier/join"
	"osier/mix"
	"osier/node"
	"osier/part"
	"osier/put"
)

// tree is a treap to be laid into an arena, by hand.
type tree struct {
	pair        api.Pair
	left, right *tree
	size, high  int
	hung        [2]func(id int) int // what hangs on either side where no tree does
	id          int                 // its number, as it was last laid
}

// above is the place of the pair that mix has above all others.
func above(l []api.Pair) int {
	top := 0
	for i, p := range l {
		if mix.Above(p.Key, l[top].Key) {
			top = i
		}
	}
	return top
}

// shaped is a tree of pairs, in that order from left to right, with those on top
// that stand where top says.
func shaped(l []api.Pair, top func([]api.Pair) int) *tree {
	if len(l) == 0 {
		return nil
	}
	i := top(l)
	return counted(&tree{pair: l[i], left: shaped(l[:i], top), right: shaped(l[i+1:], top)})
}

// counted is x, with the size and the height that what hangs on it says.
func counted(x *tree) *tree {
	x.size, x.high = 1, 1
	for _, y := range []*tree{x.left, x.right} {
		if y != nil {
			x.size += y.size
			x.high = max(x.high, y.high+1)
		}
	}
	return x
}

// recounted is x, with sizes and heights as they are but for those of one node:
// what stands above it counts by what it says.
func recounted(x, but *tree) *tree {
	if x == nil || x == but {
		return x
	}
	recounted(x.left, but)
	recounted(x.right, but)
	return counted(x)
}

// each is x, and all that hangs on it.
func (x *tree) each() []*tree {
	if x == nil {
		return nil
	}
	return slices.Concat([]*tree{x}, x.left.each(), x.right.each())
}

// has says whether y is x, or hangs on it.
func (x *tree) has(y *tree) bool {
	return slices.Contains(x.each(), y)
}

// byHand makes a record, and fails where it doesn't get that number.
func byHand(t *testing.T, a *arena.Arena, want, kind int, vals ...int) {
	t.Helper()
	if id, e := a.Make(kind, vals...); id != want || e != api.OK {
		t.Fatalf("a record of kind %d: %d, %d, not %d", kind, id, e, want)
	}
}

// lay makes a tree's records, and tells the topmost one's number.
func lay(t *testing.T, a *arena.Arena, x *tree) int {
	t.Helper()
	if x == nil {
		return 0
	}
	sides := [2]int{lay(t, a, x.left), lay(t, a, x.right)}
	x.id = a.Used() + 1
	for side, hung := range x.hung {
		if sides[side] == 0 && hung != nil {
			sides[side] = hung(x.id)
		}
	}
	byHand(t, a, x.id, node.Kind, x.pair.Key, x.pair.Val, sides[0], sides[1], x.size, x.high)
	return x.id
}

// laid is an arena that is full of that tree.
func laid(t *testing.T, x *tree) (*arena.Arena, int) {
	t.Helper()
	a := arena.New(len(x.each()))
	return a, lay(t, a, x)
}

// built is the treap of pairs whose keys rise.
func built(t *testing.T, a *arena.Arena, l []api.Pair) int {
	t.Helper()
	return lay(t, a, shaped(l, above))
}

// pairs is so many pairs: keys rise by a number, values fall and come to 0.
func pairs(from, by, n int) []api.Pair {
	var l []api.Pair
	for i := range n {
		l = append(l, api.Pair{Key: from + i*by, Val: 3 - i})
	}
	return l
}

// rule is numbers that go all over int, one after the other.
func rule(seed int) func() int {
	x := uint64(seed)
	return func() int {
		x += 0x9e3779b97f4a7c15
		return int((x ^ x>>29) * 0xbf58476d1ce4e5b9)
	}
}

// within is numbers from lo on that stay below hi, by that rule.
func within(more func() int) func(lo, hi int) int {
	return func(lo, hi int) int { return lo + int(uint(more())>>3%uint(hi-lo)) }
}

// mixed is up to so many pairs, with keys that lie the closer the more they are
// shifted.
func mixed(seed, n, shift int) []api.Pair {
	next := rule(seed)
	m := map[int]int{}
	for range n {
		m[next()>>shift] = next()
	}
	return sorted(m)
}

// sorted is the pairs of a map, by key.
func sorted(m map[int]int) []api.Pair {
	var l []api.Pair
	for _, key := range slices.Sorted(maps.Keys(m)) {
		l = append(l, api.Pair{Key: key, Val: m[key]})
	}
	return l
}

// ends is pairs at the ends and in the middle of int.
func ends() []api.Pair {
	return []api.Pair{
		{Key: math.MinInt, Val: math.MaxInt}, {Key: math.MinInt + 1, Val: math.MinInt},
		{Key: -1, Val: 1}, {Key: 0, Val: 0}, {Key: 1, Val: -1},
		{Key: math.MaxInt - 1, Val: math.MinInt}, {Key: math.MaxInt, Val: math.MaxInt},
	}
}

// lists is pairs of many kinds: one, two, an odd and an even number, many; close,
// far, at the ends of int.
func lists() [][]api.Pair {
	var l [][]api.Pair
	for n := 1; n < 20; n++ {
		l = append(l, pairs(-20, 3, n), mixed(n, n, 2*n))
	}
	for from := range ends() {
		for to := from + 1; to <= len(ends()); to++ {
			l = append(l, ends()[from:to])
		}
	}
	return append(l, pairs(7, 1, 60), mixed(1, 60, 40))
}

// far is numbers that nothing in a small arena has.
var far = []int{math.MinInt, -1, 1000, api.MaxArena, api.MaxArena + 1, math.MaxInt}

// may fails where May tells something else, or isn't only a look.
func may(t *testing.T, a *arena.Arena, id int, want bool) {
	t.Helper()
	used, room, steps := a.Used(), a.Room(), a.Steps()
	if May(a, id) != want {
		t.Errorf("May(%d): %v", id, !want)
	}
	if a.Used() != used || a.Room() != room || a.Steps() != steps {
		t.Errorf("May(%d): not only a look", id)
	}
}

// same fails where Same tells something else of the two, either one first, or
// isn't only a look.
func same(t *testing.T, a *arena.Arena, id, other int, want bool) {
	t.Helper()
	used, room, steps := a.Used(), a.Room(), a.Steps()
	if Same(a, id, other) != want || Same(a, other, id) != want {
		t.Errorf("Same(%d, %d), Same(%d, %d): not both %v", id, other, other, id, want)
	}
	if a.Used() != used || a.Room() != room || a.Steps() != steps {
		t.Errorf("Same(%d, %d): not only a look", id, other)
	}
}

// onlyWithout fails where, of what hangs on x, and x, one that has that node may
// be, or one that hasn't may not.
func onlyWithout(t *testing.T, a *arena.Arena, x, wrong *tree) {
	t.Helper()
	for _, y := range x.each() {
		may(t, a, y.id, !y.has(wrong))
	}
}

// P10.1, P10.2: the chapter's example: of nothing, yes; also where there is no
// room, or never was any.
func TestExample(t *testing.T) {
	for _, a := range []*arena.Arena{arena.New(9), arena.New(0), {}} {
		may(t, a, 0, true)
		same(t, a, 0, 0, true)
	}
}

// P10.1, P10.2: no arena: no, also for nothing.
func TestNil(t *testing.T) {
	for _, id := range append(far, 0, 1, 2) {
		may(t, nil, id, false)
		for _, other := range append(far, 0, 1, 2) {
			same(t, nil, id, other, false)
		}
	}
}

// P10.1: treaps of many kinds, and all that hangs on them; what node makes of
// the same says the same.
func TestMay(t *testing.T) {
	for _, l := range lists() {
		x := shaped(l, above)
		a := arena.New(2 * len(l))
		lay(t, a, x)
		onlyWithout(t, a, x, nil)
		made := map[int]int{}
		for id := 1; id <= x.id; id++ {
			n, _ := node.Get(a, id)
			var e api.Errno
			if made[id], e = node.Make(a, n.Pair, made[n.Left], made[n.Right]); e != api.OK {
				t.Fatalf("Make: error %d", e)
			}
			may(t, a, made[id], true)
			same(t, a, id, made[id], true)
		}
	}
}

// odd is an arena with a node (1), a cell that holds the node's number (2), and
// records of other kinds that say what the node says (3, 4); and the numbers in
// it that no treap has.
func odd(t *testing.T) (*arena.Arena, []int) {
	t.Helper()
	a := arena.New(500)
	byHand(t, a, 1, node.Kind, 5, 6, 0, 0, 1, 1)
	if id, e := a.Cell(1); id != 2 || e != api.OK {
		t.Fatalf("the cell: %d, %d", id, e)
	}
	byHand(t, a, 3, 2, 5, 6, 0, 0, 1, 1)
	byHand(t, a, 4, math.MaxInt, 5, 6, 0, 0, 1, 1)
	return a, append(far, -4, 2, 3, 4, 499, 500, 501)
}

// P10.1, P10.2: what is no treap may not be, and isn't the same as anything, nor
// as itself; a node among such things.
func TestNoTreap(t *testing.T) {
	a, wrong := odd(t)
	wrong = append(wrong, 5)
	for _, id := range wrong {
		may(t, a, id, false)
		for _, other := range slices.Concat(wrong, []int{0, 1}) {
			same(t, a, id, other, false)
		}
	}
	may(t, a, 1, true)
	same(t, a, 1, 1, true)
	may(t, &arena.Arena{}, 1, false)
	same(t, &arena.Arena{}, 1, 1, false)
}

// notHung is what may not hang on the node of that number, in an arena like odd
// where a node more has the number 499.
func notHung() []func(id int) int {
	l := []func(id int) int{
		func(id int) int { return id },
		func(id int) int { return id + 1 },
		func(id int) int { return -id },
	}
	for _, wrong := range append(far, -4, 2, 3, 4, 499, 500, 501) {
		l = append(l, func(int) int { return wrong })
	}
	return l
}

// P10.1, P10.2: what hangs on a node, and is neither nothing nor a node with a
// lower number: such a treap may not be, wherever in it that is; but it says the
// same as one on which nothing hangs there.
func TestHung(t *testing.T) {
	for _, l := range [][]api.Pair{pairs(-2, 3, 1), pairs(-2, 3, 2), pairs(-9, 2, 7), mixed(1, 15, 50), ends()} {
		x := shaped(l, above)
		for _, y := range x.each() {
			for side, tree := range []*tree{y.left, y.right} {
				for _, hung := range notHung() {
					if tree != nil {
						continue
					}
					a, _ := odd(t)
					plain := lay(t, a, x)
					may(t, a, plain, true)
					y.hung[side] = hung
					id := lay(t, a, x)
					for a.Used() < 499 {
						byHand(t, a, a.Used()+1, node.Kind, a.Used(), 1, 0, 0, 1, 1)
					}
					onlyWithout(t, a, x, y)
					same(t, a, plain, id, true)
					y.hung[side] = nil
				}
			}
		}
	}
}

// layRow makes the records of nodes in that order, wherever they hang; that of
// wrong is of another kind, or a cell (kind 0).
func layRow(t *testing.T, a *arena.Arena, row []*tree, wrong *tree, kind int) {
	t.Helper()
	for i, x := range row {
		x.id = a.Used() + 1 + i
	}
	number := func(x *tree) int {
		if x == nil {
			return 0
		}
		return x.id
	}
	for _, x := range row {
		switch {
		case x != wrong:
			byHand(t, a, x.id, node.Kind, x.pair.Key, x.pair.Val, number(x.left), number(x.right), x.size, x.high)
		case kind == 0:
			a.Cell(x.pair.Key)
		default:
			byHand(t, a, x.id, kind, x.pair.Key, x.pair.Val, number(x.left), number(x.right), x.size, x.high)
		}
	}
}

// without is x, but for what y is, and what hangs on that.
func without(x, y *tree) *tree {
	if x == nil || x == y {
		return nil
	}
	z := *x
	z.left, z.right = without(x.left, y), without(x.right, y)
	return &z
}

// P10.1, P10.2: all is as it may be, but that what hangs on a node has a higher
// number: all that it hangs on may not be, itself it may; it counts as nothing.
func TestLater(t *testing.T) {
	for _, l := range [][]api.Pair{pairs(-2, 3, 2), pairs(-9, 2, 9), mixed(1, 25, 50), ends()} {
		x := shaped(l, above)
		for _, y := range x.each() {
			var first, later []*tree
			for _, z := range slices.Backward(x.each()) {
				if y.has(z) {
					later = append(later, z)
				} else {
					first = append(first, z)
				}
			}
			a := arena.New(2 * len(l))
			layRow(t, a, append(first, later...), nil, 0)
			for _, z := range x.each() {
				may(t, a, z.id, z == y || !z.has(y))
			}
			if y != x {
				same(t, a, x.id, lay(t, a, without(x, y)), true)
			}
		}
	}
}

// P10.1, P10.2: all is as it may be, but that one node is a record of another
// kind, or a cell: it, and all that it hangs on, may not be; it counts as nothing.
func TestOtherKind(t *testing.T) {
	for _, l := range [][]api.Pair{pairs(-2, 3, 2), pairs(-9, 2, 9), mixed(1, 25, 50), ends()} {
		x := shaped(l, above)
		for _, y := range x.each() {
			for _, kind := range []int{0, 2, 3, math.MaxInt} {
				a := arena.New(2 * len(l))
				row := x.each()
				slices.Reverse(row)
				layRow(t, a, row, y, kind)
				onlyWithout(t, a, x, y)
				if y != x {
					same(t, a, x.id, lay(t, a, without(x, y)), true)
				}
				same(t, a, y.id, y.id, false)
				same(t, a, y.id, 0, false)
			}
		}
	}
}

// orders is all orders of those pairs.
func orders(l []api.Pair) [][]api.Pair {
	if len(l) == 0 {
		return [][]api.Pair{nil}
	}
	var all [][]api.Pair
	for i := range l {
		for _, m := range orders(slices.Concat(l[:i], l[i+1:])) {
			all = append(all, append([]api.Pair{l[i]}, m...))
		}
	}
	return all
}

// rise says whether keys rise.
func rise(l []api.Pair) bool {
	for i := 1; i < len(l); i++ {
		if l[i-1].Key >= l[i].Key {
			return false
		}
	}
	return true
}

// inOrder is the pairs of a tree, from left to right.
func inOrder(x *tree) []api.Pair {
	if x == nil {
		return nil
	}
	return slices.Concat(inOrder(x.left), []api.Pair{x.pair}, inOrder(x.right))
}

// P10.1: keys in any order, each above both that hang on it, sizes and heights as
// they are: only where keys rise may a treap be.
func TestOrders(t *testing.T) {
	for n := 1; n < 7; n++ {
		for _, l := range [][]api.Pair{pairs(-7, 4, n), mixed(3, n, 5), ends()[:n], ends()[7-n:]} {
			for _, m := range orders(l) {
				x := shaped(m, above)
				a, _ := laid(t, x)
				for _, y := range x.each() {
					may(t, a, y.id, rise(inOrder(y)))
				}
			}
		}
	}
}

// P10.1: two keys of many that stand in one another's place, next to one another
// or far apart.
func TestTwoTurned(t *testing.T) {
	for _, l := range [][]api.Pair{pairs(-30, 2, 30), mixed(8, 30, 0)} {
		for j := range l {
			for i := range j {
				m := slices.Clone(l)
				m[i], m[j] = m[j], m[i]
				a, id := laid(t, shaped(m, above))
				may(t, a, id, false)
			}
		}
	}
}

// P10.1: a key that stands twice, in any two places.
func TestTwice(t *testing.T) {
	for _, l := range [][]api.Pair{pairs(-30, 2, 12), mixed(8, 12, 0), ends()} {
		for _, p := range l {
			for at := range len(l) + 1 {
				for _, q := range []api.Pair{p, {Key: p.Key, Val: p.Val ^ 1}} {
					a, id := laid(t, shaped(slices.Insert(slices.Clone(l), at, q), above))
					may(t, a, id, false)
				}
			}
		}
	}
}

// P10.1: one key, of many, that is another one: it may stay where its neighbours
// and what is above and below it let it.
func TestOtherKey(t *testing.T) {
	for _, l := range [][]api.Pair{pairs(-30, 7, 20), mixed(8, 20, 50), ends()} {
		for i := range l {
			for _, key := range []int{math.MinInt, l[0].Key, l[i].Key - 1, l[i].Key + 1, l[i].Key + 3, l[len(l)/2].Key, l[len(l)-1].Key, 0, math.MaxInt} {
				x := shaped(l, above)
				for _, y := range x.each() {
					if y.pair == l[i] {
						y.pair.Key = key
					}
				}
				m := slices.Clone(l)
				m[i].Key = key
				a, id := laid(t, x)
				may(t, a, id, rise(m) && alike(x, shaped(m, above)))
			}
		}
	}
}

// alike says whether two trees are alike, node by node.
func alike(x, y *tree) bool {
	if x == nil || y == nil {
		return x == y
	}
	return x.pair == y.pair && x.size == y.size && x.high == y.high && alike(x.left, y.left) && alike(x.right, y.right)
}

// P10.1: a Size or a High that is another one, at the top or far down, whether
// what is above counts by it or not.
func TestCounts(t *testing.T) {
	for _, l := range [][]api.Pair{pairs(-2, 3, 1), pairs(-2, 3, 2), pairs(-9, 2, 9), mixed(1, 25, 50), ends()} {
		x := shaped(l, above)
		for _, y := range x.each() {
			size, high := y.size, y.high
			for _, n := range []int{math.MinInt, math.MinInt + 1, -1, 0, 1, 2, size - 1, size + 1, high - 1, high + 1, -size, len(l), math.MaxInt - 1, math.MaxInt} {
				for _, wrong := range []tree{{size: n, high: high}, {size: size, high: n}, {size: n, high: n}, {size: high, high: size}} {
					if wrong.size == size && wrong.high == high {
						continue
					}
					y.size, y.high = wrong.size, wrong.high
					a, _ := laid(t, x)
					onlyWithout(t, a, x, y)
					a, _ = laid(t, recounted(x, y))
					onlyWithout(t, a, x, y)
					y.size, y.high = size, high
					recounted(x, nil)
				}
			}
		}
	}
}

// P10.1: sizes whose sums would go round to what is said.
func TestCountsRound(t *testing.T) {
	x := shaped(pairs(-9, 2, 9), above)
	for _, y := range x.each() {
		if y.left == nil || y.right == nil {
			continue
		}
		for _, round := range []int{math.MinInt, math.MinInt + 1, math.MaxInt} {
			left, right := *y.left, *y.right
			y.left.size += round
			y.right.size -= round
			a, id := laid(t, x)
			may(t, a, id, false)
			y.left.size, y.right.size = left.size+math.MinInt, right.size+math.MinInt
			a, id = laid(t, x)
			may(t, a, id, false)
			*y.left, *y.right = left, right
		}
	}
}

// shapes is all trees of those pairs, in that order from left to right.
func shapes(l []api.Pair) []*tree {
	if len(l) == 0 {
		return []*tree{nil}
	}
	var all []*tree
	for i, p := range l {
		for _, left := range shapes(l[:i]) {
			for _, right := range shapes(l[i+1:]) {
				all = append(all, counted(&tree{pair: p, left: left, right: right}))
			}
		}
	}
	return all
}

// P10.1, P10.2, P10.3: of some pairs there is one treap that may be, among all
// trees that they make; each is the same as itself, and as no other one.
func TestShapes(t *testing.T) {
	for n := 1; n < 8; n++ {
		for _, l := range [][]api.Pair{pairs(-7, 4, n), mixed(3, n, 5), ends()[:n], ends()[7-n:]} {
			x := shaped(l, above)
			many := 0
			for _, y := range shapes(l) {
				a := arena.New(2 * n)
				id, other := lay(t, a, x), lay(t, a, y)
				is := alike(x, y)
				may(t, a, other, is)
				same(t, a, id, other, is)
				same(t, a, other, other, true)
				if is {
					many++
				}
			}
			if many != 1 {
				t.Errorf("%v: %d treaps", l, many)
			}
		}
	}
}

// turnedUp is x in which what hangs on one side of y is above y: keys rise as
// they did, sizes and heights are as they are.
func turnedUp(x, y *tree, side int) *tree {
	if x == nil {
		return nil
	}
	z := *x
	z.left, z.right = turnedUp(x.left, y, side), turnedUp(x.right, y, side)
	if x == y && side == 0 {
		up := z.left
		z.left = up.right
		up.right = counted(&z)
		return counted(up)
	}
	if x == y {
		up := z.right
		z.right = up.left
		up.left = counted(&z)
		return counted(up)
	}
	return counted(&z)
}

// P10.1: one node of many that isn't above what hangs on it, on the left or on
// the right, at the top or far down.
func TestNotAbove(t *testing.T) {
	for _, l := range lists() {
		x := shaped(l, above)
		for _, y := range x.each() {
			for side, up := range []*tree{y.left, y.right} {
				if up == nil {
					continue
				}
				a, id := laid(t, turnedUp(x, y, side))
				may(t, a, id, false)
			}
		}
	}
}

// sidesTurned is x in which the sides of y are in one another's place.
func sidesTurned(x, y *tree) *tree {
	if x == nil {
		return nil
	}
	z := *x
	z.left, z.right = sidesTurned(x.left, y), sidesTurned(x.right, y)
	if x == y {
		z.left, z.right = z.right, z.left
	}
	return &z
}

// P10.1, P10.2: a treap whose two sides are changed, at the top or far down; it
// isn't what it was, but where there is nothing to change.
func TestSidesTurned(t *testing.T) {
	for _, l := range lists() {
		x := shaped(l, above)
		for _, y := range x.each() {
			a := arena.New(2 * len(l))
			id := lay(t, a, x)
			other := lay(t, a, sidesTurned(x, y))
			may(t, a, other, y.size == 1)
			same(t, a, id, other, y.size == 1)
		}
	}
}

// P10.1: MaxPairs times MaxThreads nodes in all, and not one more.
func TestMany(t *testing.T) {
	most := api.MaxPairs * api.MaxThreads
	if most != 1200 {
		t.Fatalf("%d nodes", most)
	}
	for _, n := range []int{most - 1, most, most + 1, most + 2, 2 * most, 5000} {
		for _, l := range [][]api.Pair{pairs(-1000, 11, n), mixed(5, n, 0)} {
			x := shaped(l, above)
			a, id := laid(t, x)
			may(t, a, id, n <= most)
			for _, y := range x.each() {
				if y.size < 40 || y.size > 500 {
					may(t, a, y.id, y.size <= most)
				}
			}
			same(t, a, id, id, true)
		}
	}
}

// ranked is so many keys, each of them above the next one, that rise, or fall.
func ranked(n, by int) []int {
	var l []int
	part := math.MaxUint64 / uint64(n)
	key := 0
	for i := range n {
		for mix.Prio(key)/part != uint64(n-1-i) {
			key += by
		}
		l = append(l, key)
		key += by
	}
	return l
}

// P10.1: as many nodes as may be, and one more, as one long way down to either
// side.
func TestLongWay(t *testing.T) {
	most := api.MaxPairs * api.MaxThreads
	for side, by := range []int{-1, 1} {
		keys := ranked(most+1, by)
		a := arena.New(len(keys))
		for id := 1; id <= len(keys); id++ {
			sides := [2]int{}
			sides[side] = id - 1
			byHand(t, a, id, node.Kind, keys[len(keys)-id], 0, sides[0], sides[1], id, id)
		}
		for _, n := range []int{1, 2, most / 2, most - 1, most, most + 1} {
			may(t, a, n, n <= most)
		}
	}
}

// doubled is records made by hand, each with the one ahead of it on both its
// sides, above a chain of so many that have nothing on one side.
func doubled(t *testing.T, a *arena.Arena, chain, many, side int, key func(i int) int) int {
	t.Helper()
	first := a.Used()
	for i := range chain + many {
		on := 0
		if i > 0 {
			on = first + i
		}
		sides := [2]int{on, on}
		if i < chain {
			sides[side] = 0
		}
		byHand(t, a, first+i+1, node.Kind, key(i), 7, sides[0], sides[1], i+1, i+1)
	}
	return first + chain + many
}

// P10.1, P10.2: records that share what hangs on them, which thereby comes to
// more than there is time for: they may not be; Same comes through.
func TestShared(t *testing.T) {
	falls := ranked(200, 1)
	for _, key := range []func(int) int{
		func(int) int { return 5 },
		func(i int) int { return i },
		func(i int) int { return -i },
		func(i int) int { return falls[199-i%200] },
	} {
		for _, chain := range []int{1, 100, api.MaxPairs * api.MaxThreads, 14000} {
			for side := range 2 {
				a := arena.New(math.MaxInt)
				id := doubled(t, a, chain, 60, side, key)
				other := doubled(t, a, chain, 60, side, key)
				turned := doubled(t, a, chain, 60, 1-side, key)
				changed := doubled(t, a, chain, 60, side, func(i int) int { return key(i) + 1/(i+1) })
				may(t, a, id, false)
				same(t, a, id, id, true)
				same(t, a, id, other, true)
				same(t, a, id, other-1, false)
				same(t, a, id, turned, chain == 1)
				same(t, a, id, changed, false)
			}
		}
	}
}

// P10.1: a node that is come to more than once, though by itself it may be: on
// both sides of another one, or further down.
func TestOnceMore(t *testing.T) {
	for _, l := range lists() {
		x := shaped(l, above)
		for _, y := range x.each() {
			for _, z := range x.each() {
				for side, on := range []*tree{z.left, z.right} {
					if on != nil || y.has(z) {
						continue
					}
					z.hung[side] = func(int) int { return y.id }
					a := arena.New(2 * len(l))
					lay(t, a, x)
					lay(t, a, x)
					may(t, a, x.id, false)
					z.hung[side] = nil
				}
			}
		}
	}
}

// P10.1: treaps that share what hangs on them with other treaps may be.
func TestWhatHangs(t *testing.T) {
	l := pairs(-40, 3, 30)
	a := arena.New(5000)
	id := built(t, a, l)
	for i := range l {
		lower, _, e := part.At(a, id, l[i].Key)
		if e != api.OK {
			t.Fatalf("error %d", e)
		}
		may(t, a, lower, true)
		same(t, a, lower, built(t, a, l[:i]), true)
	}
	may(t, a, id, true)
}

// P10.2: treaps made apart of the same pairs are the same, whichever is the
// first; of other ones they aren't.
func TestSame(t *testing.T) {
	all := lists()
	for i, l := range all {
		m := all[(i+5)%len(all)]
		a := arena.New(2*len(l) + len(m) + 1)
		id := built(t, a, l)
		if _, e := a.Cell(id); e != api.OK {
			t.Fatalf("the cell: error %d", e)
		}
		third := built(t, a, m)
		other := built(t, a, l)
		same(t, a, id, id, true)
		same(t, a, id, other, true)
		same(t, a, id, third, slices.Equal(l, m))
		same(t, a, id, 0, false)
		same(t, a, id, a.Used()+1, false)
	}
}

// P10.2: of all that hangs on two treaps, those are the same that are of the same
// pairs.
func TestSameWhatHangs(t *testing.T) {
	for _, l := range [][]api.Pair{pairs(-9, 2, 14), mixed(1, 25, 50), ends()} {
		x, y := shaped(l, above), shaped(l, above)
		a := arena.New(2 * len(l))
		lay(t, a, x)
		lay(t, a, y)
		for _, v := range x.each() {
			same(t, a, v.id, 0, false)
			for _, w := range y.each() {
				same(t, a, v.id, w.id, v.pair == w.pair)
			}
		}
	}
}

// P10.2: pairs that differ in one key, in one value, or in that one is missing,
// whichever it is; the shape may be as it was.
func TestOneOther(t *testing.T) {
	for _, l := range [][]api.Pair{pairs(-2, 3, 1), pairs(-2, 3, 2), pairs(-9, 2, 9), mixed(1, 25, 50), ends()} {
		for i, p := range l {
			for _, n := range []int{1, -1, 2, math.MinInt, -2 * p.Val, -2 * p.Key} {
				if n == 0 {
					continue
				}
				for _, q := range []api.Pair{{Key: p.Key, Val: p.Val + n}, {Key: p.Key + n, Val: p.Val}} {
					x := shaped(l, above)
					a := arena.New(3 * len(l))
					id := lay(t, a, x)
					for _, y := range x.each() {
						if y.pair == p {
							y.pair = q
						}
					}
					same(t, a, id, lay(t, a, x), false)
					m := slices.Clone(l)
					m[i] = q
					slices.SortFunc(m, func(p, q api.Pair) int { return cmp.Compare(p.Key, q.Key) })
					same(t, a, id, built(t, a, m), false)
				}
			}
			a := arena.New(2 * len(l))
			same(t, a, built(t, a, l), built(t, a, slices.Concat(l[:i], l[i+1:])), false)
		}
	}
}

// P10.2: key and value are not each other's.
func TestKeyIsNoValue(t *testing.T) {
	a := arena.New(9)
	byHand(t, a, 1, node.Kind, 5, 6, 0, 0, 1, 1)
	byHand(t, a, 2, node.Kind, 6, 5, 0, 0, 1, 1)
	byHand(t, a, 3, node.Kind, 5, 6, 0, 0, 1, 1)
	same(t, a, 1, 2, false)
	same(t, a, 1, 3, true)
}

// P10.2: pairs, left, right are what they say, Size and High are not.
func TestSameCounts(t *testing.T) {
	l := pairs(-9, 2, 9)
	x := shaped(l, above)
	for _, y := range x.each() {
		for _, n := range []int{math.MinInt, -1, 0, 5, math.MaxInt} {
			a := arena.New(3 * len(l))
			id := lay(t, a, x)
			size, high := y.size, y.high
			y.size = n
			same(t, a, id, lay(t, a, x), true)
			y.size, y.high = size, n
			same(t, a, id, lay(t, a, x), true)
			y.high = high
		}
	}
}

// P10.2: what hangs on the left is not what hangs on the right.
func TestSameSides(t *testing.T) {
	a := arena.New(9)
	byHand(t, a, 1, node.Kind, 5, 6, 0, 0, 1, 1)
	byHand(t, a, 2, node.Kind, 7, 8, 1, 0, 2, 2)
	byHand(t, a, 3, node.Kind, 7, 8, 0, 1, 2, 2)
	byHand(t, a, 4, node.Kind, 7, 8, 1, 1, 3, 2)
	byHand(t, a, 5, node.Kind, 7, 8, 0, 0, 1, 1)
	for id := 2; id <= 5; id++ {
		for other := 2; other <= 5; other++ {
			same(t, a, id, other, id == other)
		}
	}
}

// R6: a treap is one of its own arena: what stands in another one, or was asked
// there, doesn't matter.
func TestTwoArenas(t *testing.T) {
	l := pairs(1, 2, 9)
	x := shaped(l, above)
	a, id := laid(t, x)
	b, turned := laid(t, sidesTurned(x, x))
	for range 3 {
		may(t, a, id, true)
		may(t, b, turned, false)
		may(t, arena.New(20), id, false)
		same(t, a, id, id, true)
		same(t, arena.New(20), id, id, false)
	}
}

// R6: an arena that grows: what may be stays so, and comes to be as it is made.
func TestGrows(t *testing.T) {
	l := pairs(1, 2, 40)
	a := arena.New(1000)
	id := built(t, a, l)
	for n := range l {
		may(t, a, a.Used()+1, false)
		other := built(t, a, l[:n])
		may(t, a, other, true)
		may(t, a, id, true)
		same(t, a, id, other, false)
	}
}

// of is the treap that put makes of pairs, one after the other.
func of(t *testing.T, a *arena.Arena, l []api.Pair) int {
	t.Helper()
	id, e := put.Of(a, l...)
	if e != api.OK {
		t.Fatalf("Of: error %d", e)
	}
	return id
}

// P10.3: whatever the order in which pairs are put, what comes of it may be, and
// is the one treap of them.
func TestPutOrders(t *testing.T) {
	for n := 1; n < 6; n++ {
		for _, l := range [][]api.Pair{pairs(-7, 4, n), mixed(3, n, 5), ends()[:n], ends()[7-n:]} {
			a := arena.New(api.MaxArena)
			id := built(t, a, l)
			for _, m := range orders(l) {
				other := of(t, a, m)
				may(t, a, other, true)
				same(t, a, id, other, true)
			}
		}
	}
}

// P10.3: what is parted anywhere may be, and so may what is joined again: it is
// the one treap of its pairs.
func TestPartJoin(t *testing.T) {
	for _, l := range lists() {
		a := arena.New(api.MaxArena)
		id := of(t, a, l)
		same(t, a, id, built(t, a, l), true)
		for i, p := range l {
			left, right, e := part.At(a, id, p.Key)
			whole, f := join.Two(a, left, right)
			if e != api.OK || f != api.OK {
				t.Fatalf("errors %d, %d", e, f)
			}
			for _, made := range []int{left, right, whole} {
				may(t, a, made, true)
			}
			same(t, a, left, built(t, a, l[:i]), true)
			same(t, a, right, built(t, a, l[i:]), true)
			same(t, a, whole, id, true)
			if a.Room() < 1000 {
				break
			}
		}
	}
}

// P10.3: what is put and cut, parted and joined, in a long row, may be each time,
// and is the one treap of the pairs that there are.
func TestLongRow(t *testing.T) {
	for seed := range 30 {
		in := within(rule(seed))
		a := arena.New(api.MaxArena)
		m := map[int]int{}
		id := 0
		for range 300 {
			key, val := in(-20, 40), in(-5, 5)
			var e, f api.Errno
			switch in(0, 5) {
			case 0, 1:
				id, _, _, e = put.Put(a, id, api.Pair{Key: key, Val: val})
				m[key] = val
			case 2, 3:
				id, _, _, e = cut.Cut(a, id, key)
				delete(m, key)
			default:
				left, right, g := part.At(a, id, key)
				id, f = join.All(a, 0, left, right)
				e = max(e, g)
			}
			if e != api.OK || f != api.OK {
				t.Fatalf("errors %d, %d", e, f)
			}
			may(t, a, id, true)
			same(t, a, id, built(t, a, sorted(m)), true)
		}
	}
}

// pairsOf is the pairs of what hangs on a node, and its own, from left to right.
func pairsOf(a *arena.Arena, id int) []api.Pair {
	n, ok := node.Get(a, id)
	if !ok {
		return nil
	}
	return slices.Concat(pairsOf(a, lower(id, n.Left)), []api.Pair{n.Pair}, pairsOf(a, lower(id, n.Right)))
}

func lower(id, hung int) int {
	if hung < id {
		return hung
	}
	return 0
}

// isTree says whether the node is just that tree, with nothing that only counts
// as nothing.
func isTree(a *arena.Arena, id int, x *tree) bool {
	if x == nil {
		return id == 0
	}
	n, ok := node.Get(a, id)
	return ok && n.Pair == x.pair && n.Size == x.size && n.High == x.high && n.Left < id && n.Right < id &&
		isTree(a, n.Left, x.left) && isTree(a, n.Right, x.right)
}

// read is the tree of a node, with what counts as nothing left out; but for its
// sizes and heights.
func read(a *arena.Arena, id int) *tree {
	n, ok := node.Get(a, id)
	if !ok {
		return nil
	}
	return counted(&tree{pair: n.Pair, left: read(a, lower(id, n.Left)), right: read(a, lower(id, n.Right))})
}

// random is a tree of few keys, most often a treap.
func random(in func(lo, hi int) int) *tree {
	m := map[int]int{}
	for range in(1, 6) {
		m[in(0, 6)] = in(0, 2)
	}
	if in(0, 5) > 0 {
		return shaped(sorted(m), above)
	}
	return shaped(sorted(m), func(l []api.Pair) int { return in(0, len(l)) })
}

// spoil makes something of x, now and then, another one; numbers that hang on it
// are below many.
func spoil(in func(lo, hi int) int, x *tree, many int) {
	for _, y := range x.each() {
		switch in(0, 40) {
		case 0:
			y.size += in(-3, 3)
		case 1:
			y.high += in(-2, 2)
		case 2:
			y.size, y.high = in(math.MinInt/4, math.MaxInt/4), in(0, 4)
		case 3, 4:
			n := in(-2, many)
			y.hung[in(0, 2)] = func(int) int { return n }
		case 5:
			y.pair.Key += in(-2, 3)
		case 6:
			y.pair.Val ^= 1
		}
	}
}

// strewn is an arena with cells, and with treaps, some of them spoilt, some of
// them twice.
func strewn(t *testing.T, seed int) *arena.Arena {
	t.Helper()
	in := within(rule(seed))
	a := arena.New(40)
	x := random(in)
	for range in(1, 6) {
		if in(0, 2) == 0 {
			x = random(in)
		}
		spoil(in, x, a.Used()+9)
		lay(t, a, x)
		if in(0, 3) == 0 {
			a.Cell(in(-1, a.Used()+3))
		}
	}
	return a
}

// P10.1, P10.2, P10.3: records that say anything: those may be that are just the
// one treap of their pairs, and those are the same that read the same.
func TestStrewn(t *testing.T) {
	yes, alikes := 0, 0
	for seed := range 6000 {
		a := strewn(t, seed)
		for id := -1; id <= a.Used()+1; id++ {
			l := pairsOf(a, id)
			want := id == 0 || len(l) > 0 && rise(l) && isTree(a, id, shaped(l, above))
			may(t, a, id, want)
			if want && len(l) > 2 {
				yes++
			}
			x := read(a, id)
			for other := id; other <= a.Used()+1; other++ {
				y := read(a, other)
				is := alike(x, y) && (x != nil || id == 0 && other == 0)
				same(t, a, id, other, is)
				if is && other != id && x.size > 2 {
					alikes++
				}
			}
		}
	}
	if yes < 100 || alikes < 100 {
		t.Errorf("only %d that may be, %d that are the same", yes, alikes)
	}
}

// R3: ways down as long as an arena has room for, and all nodes of an arena hung
// on one another anyhow: every call ends.
func TestLong(t *testing.T) {
	half := api.MaxArena / 2
	for side := range 2 {
		a := arena.New(math.MaxInt)
		for id := 1; id <= 2*half; id++ {
			sides := [2]int{}
			i := (id-1)%half + 1
			if i > 1 {
				sides[side] = id - 1
			}
			byHand(t, a, id, node.Kind, i, -i, sides[0], sides[1], i, i)
		}
		may(t, a, 2*half, false)
		same(t, a, half, 2*half, true)
		same(t, a, half, 2*half-1, false)
		same(t, a, half-1, 2*half-1, true)
	}
	a := arena.New(math.MaxInt)
	in := within(rule(1))
	for id := 1; id <= api.MaxArena; id++ {
		byHand(t, a, id, node.Kind, in(0, 3), 1, in(0, id+2), in(id/2, id+1), in(0, 9), in(0, 9))
	}
	for id := api.MaxArena - 4; id <= api.MaxArena; id++ {
		May(a, id)
		same(t, a, id, id, true)
		same(t, a, id, 0, false)
	}
}
