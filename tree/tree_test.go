package tree

import (
	"math"
	"slices"
	"testing"

	"osier/api"
)

// The ends of int, and the bound of stats, by the document.
const (
	low     = math.MinInt
	high    = math.MaxInt
	maxStat = 1000000
)

// part is a leaf, or a route with what hangs on it, ahead of being laid out.
type part struct {
	node        api.Node
	left, right *part
}

// pairs is pairs of these keys, whose values are ten times as much and one more.
func pairs(keys ...int) []api.Pair {
	var l []api.Pair
	for _, k := range keys {
		l = append(l, api.Pair{Key: k, Val: k*10 + 1})
	}
	return l
}

// hold is a leaf of that stat with pairs of these keys.
func hold(stat int, keys ...int) *part {
	return &part{node: api.Node{Pairs: pairs(keys...), Stat: stat}}
}

// fork is a route.
func fork(key int, left, right *part) *part {
	return &part{api.Node{Route: true, Key: key}, left, right}
}

// laid is the tree of these parts in plain order, worked out without the package.
func laid(p *part) api.Tree {
	var t api.Tree
	var lay func(p *part) int
	lay = func(p *part) int {
		at := len(t.Nodes)
		n := p.node
		n.Pairs = slices.Clone(n.Pairs)
		t.Nodes = append(t.Nodes, n)
		if n.Route {
			left := lay(p.left)
			right := lay(p.right)
			t.Nodes[at].Left, t.Nodes[at].Right = left, right
		}
		return at
	}
	lay(p)
	return t
}

// moved is the same tree, with the node of place i at place to[i].
func moved(t api.Tree, to []int) api.Tree {
	u := api.Tree{Root: to[t.Root], Nodes: make([]api.Node, len(t.Nodes))}
	for i, n := range t.Nodes {
		if n.Route {
			n.Left, n.Right = to[n.Left], to[n.Right]
		}
		n.Pairs = slices.Clone(n.Pairs)
		u.Nodes[to[i]] = n
	}
	return u
}

// strewn is the same tree, laid out so that each place goes as many times as far
// (which has no divisor in common with how many nodes there are), and some more.
func strewn(t api.Tree, far, more int) api.Tree {
	to := make([]int, len(t.Nodes))
	for i := range to {
		to[i] = (i*far + more) % len(to)
	}
	return moved(t, to)
}

// orders is all orders of n places.
func orders(n int) [][]int {
	if n == 0 {
		return [][]int{nil}
	}
	var all [][]int
	for _, o := range orders(n - 1) {
		for i := range n {
			all = append(all, slices.Insert(slices.Clone(o), i, n-1))
		}
	}
	return all
}

// cloned is the same tree in memory of its own.
func cloned(t api.Tree) api.Tree {
	u := api.Tree{Root: t.Root, Nodes: slices.Clone(t.Nodes)}
	for i := range u.Nodes {
		u.Nodes[i].Pairs = slices.Clone(u.Nodes[i].Pairs)
	}
	return u
}

// alikePairs, alikeNodes and alike hold things against each other without the
// package, place by place.
func alikePairs(a, b []api.Pair) bool {
	if len(a) != len(b) {
		return false
	}
	for i := range a {
		if a[i].Key != b[i].Key || a[i].Val != b[i].Val {
			return false
		}
	}
	return true
}

func alikeNodes(a, b []api.Node) bool {
	if len(a) != len(b) {
		return false
	}
	for i, m := range a {
		n := b[i]
		if m.Route != n.Route || m.Key != n.Key || m.Left != n.Left || m.Right != n.Right || m.Stat != n.Stat || !alikePairs(m.Pairs, n.Pairs) {
			return false
		}
	}
	return true
}

func alike(t, u api.Tree) bool {
	return t.Root == u.Root && alikeNodes(t.Nodes, u.Nodes)
}

func alikePath(p, q Path) bool {
	return p.Leaf == q.Leaf && slices.Equal(p.Ups, q.Ups) && slices.Equal(p.Rights, q.Rights)
}

// guarded is the tree with more behind each of its lists, and a check that all of
// it is as it was. All pairs lie behind one another in one array, so that who
// adds to a list writes over what is no part of it.
func guarded(t api.Tree) (api.Tree, func(*testing.T)) {
	var back []api.Pair
	for _, n := range t.Nodes {
		back = append(append(back, n.Pairs...), api.Pair{Key: 666, Val: 666})
	}
	nodes := slices.Clone(t.Nodes)
	from := 0
	for i, n := range nodes {
		to := from + len(n.Pairs)
		nodes[i].Pairs = back[from:to]
		from = to + 1
	}
	nodes = append(nodes, api.Node{Key: 666, Stat: 666}, api.Node{Route: true, Key: 666, Left: 666, Right: 666}, api.Node{})
	wasNodes, wasBack := cloned(api.Tree{Nodes: nodes}).Nodes, slices.Clone(back)
	g := api.Tree{Root: t.Root, Nodes: nodes[:len(t.Nodes)]}
	return g, func(x *testing.T) {
		x.Helper()
		if !alikeNodes(nodes, wasNodes) || !alikePairs(back, wasBack) {
			x.Fatalf("what was handed in is %v, %v now", nodes, back)
		}
	}
}

// spoil writes over all of a list of pairs, and over what its capacity holds.
func spoil(l []api.Pair) {
	l = l[:cap(l)]
	for i := range l {
		l[i] = api.Pair{Key: 777, Val: 777}
	}
}

// spoilTree writes over all of a tree, one list after the other, and checks that
// each one's pairs are its own.
func spoilTree(t *testing.T, u api.Tree) {
	t.Helper()
	was := cloned(u)
	for i := range u.Nodes {
		spoil(u.Nodes[i].Pairs)
		was.Nodes[i].Pairs = make([]api.Pair, len(was.Nodes[i].Pairs))
		spoil(was.Nodes[i].Pairs)
		if len(u.Nodes) < 50 && !alike(u, was) {
			t.Fatalf("the pairs of node %d are those of another one too: %v", i, u)
		}
	}
	all := u.Nodes[:cap(u.Nodes)]
	for i := range all {
		all[i] = api.Node{Key: 777, Left: 777}
	}
}

// checkNot is all calls on a tree that may not be: zero and no.
func checkNot(t *testing.T, name string, x api.Tree) {
	t.Helper()
	g, same := guarded(x)
	ok := laid(hold(0, 1))
	if May(g) {
		t.Errorf("%s may be", name)
	}
	if p, is := Plain(g); is || p.Root != 0 || len(p.Nodes) != 0 {
		t.Errorf("%s: Plain %v, %v", name, p, is)
	}
	if Same(g, g) || Same(g, ok) || Same(ok, g) || Same(g, api.Tree{}) || Same(g, cloned(x)) {
		t.Errorf("%s: Same", name)
	}
	if l := Leaves(g); len(l) != 0 {
		t.Errorf("%s: Leaves %v", name, l)
	}
	if l := All(g); len(l) != 0 {
		t.Errorf("%s: All %v", name, l)
	}
	for _, key := range []int{low, -1, 0, 1, 5, high} {
		if p, is := Find(g, key); is || !alikePath(p, Path{}) {
			t.Errorf("%s: Find of %d: %v, %v", name, key, p, is)
		}
	}
	for _, at := range []int{low, -1, 0, 1, 2, 3, 4, 5, len(x.Nodes) - 1, len(x.Nodes), high} {
		if u, is := Set(g, at, nil, 0); is || u.Root != 0 || len(u.Nodes) != 0 {
			t.Errorf("%s: Set of %d: %v, %v", name, at, u, is)
		}
	}
	same(t)
}

// way is a leaf, what is above it, and its pairs.
type way struct {
	Path
	pairs []api.Pair
}

// ways is the leaves of a tree that may be, from left to right, without the
// package.
func ways(t api.Tree) []way {
	var all []way
	var down func(p Path)
	down = func(p Path) {
		n := t.Nodes[p.Leaf]
		if !n.Route {
			all = append(all, way{p, n.Pairs})
			return
		}
		ups := append(slices.Clone(p.Ups), p.Leaf)
		down(Path{n.Left, ups, append(slices.Clone(p.Rights), false)})
		down(Path{n.Right, ups, append(slices.Clone(p.Rights), true)})
	}
	down(Path{Leaf: t.Root})
	return all
}

// checkBe is May, Plain, Same, Leaves and All of a tree that may be, of which
// plain is the plain one.
func checkBe(t *testing.T, name string, x, plain api.Tree) {
	t.Helper()
	g, same := guarded(x)
	if !May(g) || !Same(g, g) || !Same(g, plain) || !Same(plain, g) {
		t.Errorf("%s: May %v, Same %v, %v, %v", name, May(g), Same(g, g), Same(g, plain), Same(plain, g))
	}
	for range 2 {
		p, ok := Plain(g)
		if !ok || !alike(p, plain) {
			t.Errorf("%s: Plain %v, %v, not %v", name, p, ok, plain)
		}
		q, ok := Plain(p)
		if !ok || !alike(q, plain) {
			t.Errorf("%s: Plain once more %v, %v, not %v", name, q, ok, plain)
		}
		spoilTree(t, p)
		if !alike(q, plain) {
			t.Errorf("%s: Plain shares memory", name)
		}
	}
	checkLeaves(t, name, g)
	same(t)
}

// checkLeaves is Leaves and All of a tree that may be.
func checkLeaves(t *testing.T, name string, x api.Tree) {
	t.Helper()
	var places []int
	var all []api.Pair
	for _, w := range ways(x) {
		places = append(places, w.Leaf)
		all = append(all, w.pairs...)
	}
	for range 2 {
		l, m := Leaves(x), All(x)
		if !slices.Equal(l, places) {
			t.Errorf("%s: Leaves %v, not %v", name, l, places)
		}
		if !alikePairs(m, all) {
			t.Errorf("%s: All %v, not %v", name, m, all)
		}
		l = l[:cap(l)]
		for i := range l {
			l[i] = 777
		}
		spoil(m)
	}
}

// grown is a part with routes at ten times each of from .. to - 1, of which pick
// says the topmost one, and leaves between them. Leaf i lies ahead of route i: it
// has pairs at the route ahead of it, and just below its own. Each fourth leaf is
// empty, and the stats differ.
func grown(from, to, deep int, pick func(from, to, deep int) int) *part {
	if from == to {
		if from%4 == 2 {
			return hold(from - 3)
		}
		return hold(from-3, 10*from-10, 10*from-1)
	}
	k := pick(from, to, deep)
	return fork(10*k, grown(from, k, deep+1, pick), grown(k+1, to, deep+1, pick))
}

// shapes is what may be the topmost of some routes.
var shapes = []struct {
	name string
	pick func(from, to, deep int) int
}{
	{"to the left", func(_, to, _ int) int { return to - 1 }},
	{"to the right", func(from, _, _ int) int { return from }},
	{"in turn", func(from, to, deep int) int {
		if deep%2 == 0 {
			return from
		}
		return to - 1
	}},
	{"in turn, the other way", func(from, to, deep int) int {
		if deep%2 == 1 {
			return from
		}
		return to - 1
	}},
	{"even", func(from, to, _ int) int { return (from + to) / 2 }},
	{"lopsided", func(from, to, _ int) int { return (2*from + to) / 3 }},
}

// P14.1: one leaf, a route with two leaves, and five nodes, wherever they stand.
func TestMaySmall(t *testing.T) {
	for name, p := range map[string]*part{
		"an empty leaf":          hold(0),
		"a leaf":                 hold(3, 1, 2, 7),
		"a leaf at the ends":     hold(-maxStat, low, -1, 0, 1, high),
		"a route":                fork(5, hold(0, 1, 4), hold(1, 5, 9)),
		"a route of nothing":     fork(0, hold(0), hold(0)),
		"a route below 0":        fork(-5, hold(0, -7, -6), hold(1, -5, 0, 5)),
		"a route and its left":   fork(5, fork(3, hold(7, 1, 2), hold(0, 3, 4)), hold(-1, 5, 9)),
		"a route and its right":  fork(3, hold(7, 1, 2), fork(5, hold(0, 3, 4), hold(-1, 5, 9))),
		"routes without a pair":  fork(1, fork(0, hold(0), hold(0)), hold(0)),
		"one pair, on the left":  fork(5, fork(3, hold(0, 2), hold(0)), hold(0)),
		"one pair, in between":   fork(5, fork(3, hold(0), hold(0, 3)), hold(0)),
		"one pair, on the right": fork(5, fork(3, hold(0), hold(0)), hold(0, 5)),
	} {
		plain := laid(p)
		for _, to := range orders(len(plain.Nodes)) {
			checkBe(t, name, moved(plain, to), plain)
		}
	}
}

// P14.1, P14.2: trees of each shape, from one leaf on, laid out in many ways.
func TestMayShapes(t *testing.T) {
	for _, s := range shapes {
		for n := range 20 {
			plain := laid(grown(0, n, 0, s.pick))
			checkBe(t, s.name, plain, plain)
			checkBe(t, s.name, strewn(plain, 2, n), plain)
			checkBe(t, s.name, strewn(plain, 2*n, 0), plain)
		}
	}
}

// P14.1: as many nodes as there can be (2000 can't: there is a leaf more than
// there are routes), and one route more; also very many, however deep.
func TestMost(t *testing.T) {
	for _, s := range shapes {
		plain := laid(grown(0, 999, 0, s.pick))
		if len(plain.Nodes) != 1999 {
			t.Fatalf("%s: %d nodes", s.name, len(plain.Nodes))
		}
		checkBe(t, s.name, plain, plain)
		checkBe(t, s.name, strewn(plain, 2, 1000), plain)
		checkNot(t, s.name+", one leaf more", api.Tree{Nodes: append(cloned(plain).Nodes, api.Node{})})
		more := laid(grown(0, 1000, 0, s.pick))
		checkNot(t, s.name+", one route more", more)
		checkNot(t, s.name+", one route more", strewn(more, 2, 7))
		checkNot(t, s.name+", ten times as many", laid(grown(0, 9990, 0, s.pick)))
	}
	deep := api.Tree{Nodes: make([]api.Node, 1<<21+1)}
	for i := range len(deep.Nodes) / 2 {
		deep.Nodes[2*i] = api.Node{Route: true, Key: i, Left: 2*i + 1, Right: 2*i + 2}
	}
	if May(deep) {
		t.Error("a million routes may be")
	}
}

// three is a route at 5; left: a route at 3: 1 2, and 3 4; right: 5 9.
func three() api.Tree {
	return laid(fork(5, fork(3, hold(7, 1, 2), hold(0, 3, 4)), hold(-1, 5, 9)))
}

// P14.1: no nodes; a Root that is no place, or not that of the root.
func TestRoot(t *testing.T) {
	checkNot(t, "nothing", api.Tree{})
	checkNot(t, "nothing", api.Tree{Nodes: []api.Node{}})
	for _, root := range []int{low, -1, 1, 2, 1<<32 - 1, high} {
		checkNot(t, "no nodes", api.Tree{Root: root})
		checkNot(t, "one leaf", api.Tree{Root: root, Nodes: []api.Node{{}}})
	}
	for _, root := range []int{low, low + 1, -5, -1, 1, 2, 3, 4, 5, 6, 7, 1 << 32, high - 1, high} {
		x := three()
		x.Root = root
		checkNot(t, "Root elsewhere", x)
	}
	for i := range 5 {
		x := strewn(three(), 2, i)
		checkBe(t, "Root anywhere", x, three())
		if x.Root != i {
			t.Errorf("Root %d, not %d", x.Root, i)
		}
	}
}

// P14.1: Left or Right that is no place, the same place, one that was come to, or
// goes round; all the others may be as they like.
func TestPlaces(t *testing.T) {
	for _, at := range []int{0, 1} {
		n := three().Nodes[at]
		for _, place := range []int{low, low + 1, -6, -5, -1, 0, 1, 2, 3, 4, 5, 6, 7, 1 << 32, 1<<32 + 1, high - 1, high} {
			x := three()
			x.Nodes[at].Left = place
			if place != n.Left {
				checkNot(t, "Left elsewhere", x)
			}
			x = three()
			x.Nodes[at].Right = place
			if place != n.Right {
				checkNot(t, "Right elsewhere", x)
			}
			x.Nodes[at].Left = place
			checkNot(t, "both at one place", x)
		}
	}
	x := three()
	x.Nodes[0].Left, x.Nodes[0].Right = 4, 1
	checkNot(t, "the sides the other way round", x)
}

// P14.1: each node is come to, and once. No key is in the way here.
func TestEachOnce(t *testing.T) {
	empty := laid(fork(5, hold(0), hold(0)))
	checkBe(t, "two leaves", empty, empty)
	one := cloned(empty)
	one.Nodes[0].Right = 1
	checkNot(t, "one leaf twice, the other one never", one)
	one.Nodes = one.Nodes[:2]
	checkNot(t, "one leaf twice", one)
	for _, n := range []api.Node{{}, {Route: true, Left: 1, Right: 2}, {Route: true, Key: 3, Left: 3, Right: 3}, {Route: true, Key: 3, Left: 0, Right: 0}} {
		x := cloned(empty)
		x.Nodes = append(x.Nodes, n)
		checkNot(t, "a node more", x)
		x = three()
		x.Nodes = append(x.Nodes, n)
		checkNot(t, "a node more", x)
		x = api.Tree{Nodes: []api.Node{{}, n}}
		checkNot(t, "a node more", x)
		x = api.Tree{Root: 1, Nodes: []api.Node{n, {}}}
		checkNot(t, "a node ahead", x)
	}
	apart := append(cloned(empty).Nodes, laid(fork(5, hold(0), hold(0))).Nodes...)
	for i := 3; i < 6; i++ {
		apart[i].Left, apart[i].Right = 0, 0
	}
	apart[3].Left, apart[3].Right = 4, 5
	checkNot(t, "two trees", api.Tree{Nodes: apart})
	checkNot(t, "two trees", api.Tree{Root: 3, Nodes: apart})
	checkNot(t, "two leaves", api.Tree{Nodes: make([]api.Node, 2)})
}

// P14.1: rings, by themselves and with the root among them.
func TestRings(t *testing.T) {
	ring := []api.Node{{Route: true, Key: 5, Left: 0, Right: 0}}
	checkNot(t, "a route of itself", api.Tree{Nodes: ring})
	checkNot(t, "a leaf beside it", api.Tree{Root: 1, Nodes: append(ring, api.Node{})})
	checkNot(t, "its left is itself", api.Tree{Nodes: []api.Node{{Route: true, Left: 0, Right: 1}, {}}})
	checkNot(t, "its right is itself", api.Tree{Nodes: []api.Node{{Route: true, Left: 1, Right: 0}, {}}})
	two := []api.Node{{Route: true, Key: 5, Left: 1, Right: 2}, {Route: true, Key: 3, Left: 0, Right: 3}, {}, {}}
	checkNot(t, "two in a ring", api.Tree{Nodes: two})
	checkNot(t, "two in a ring", api.Tree{Root: 1, Nodes: two})
	// 5 is the root of three, 6 and 7 are on each other's left, with a leaf each.
	aside := append(three().Nodes, api.Node{Route: true, Key: 1, Left: 6, Right: 7}, api.Node{Route: true, Key: 2, Left: 5, Right: 8}, api.Node{}, api.Node{})
	checkNot(t, "a ring aside", api.Tree{Nodes: aside})
}

// P14.1: what a route, and a leaf, has none of, and what it may have.
func TestFields(t *testing.T) {
	for _, v := range []int{low, -maxStat, -1, 1, 2, 3, 4, maxStat, high} {
		for at := range 5 {
			x := three()
			if at < 2 {
				x.Nodes[at].Stat = v
				checkNot(t, "a route's Stat", x)
				continue
			}
			x.Nodes[at].Key = v
			checkNot(t, "a leaf's Key", x)
			x = three()
			x.Nodes[at].Left = v
			checkNot(t, "a leaf's Left", x)
			x = three()
			x.Nodes[at].Right = v
			checkNot(t, "a leaf's Right", x)
		}
	}
	for at := range 2 {
		for _, l := range [][]api.Pair{pairs(3), pairs(0), pairs(5, 9), pairs(2, 1), make([]api.Pair, 1)} {
			x := three()
			x.Nodes[at].Pairs = l
			checkNot(t, "a route's Pairs", x)
		}
		x := three()
		x.Nodes[at].Pairs = []api.Pair{}
		checkBe(t, "a route's empty Pairs", x, three())
	}
	for at, n := range three().Nodes {
		x := three()
		x.Nodes[at].Route = !n.Route
		checkNot(t, "a leaf for a route", x)
	}
	checkNot(t, "one leaf's Key", api.Tree{Nodes: []api.Node{{Key: 1}}})
	checkNot(t, "one leaf's Left", api.Tree{Nodes: []api.Node{{Left: 1}}})
	checkNot(t, "one leaf's Right", api.Tree{Nodes: []api.Node{{Right: -1}}})
}

// P14.1: Stats at their bounds, and beyond, of one leaf and of each of many.
func TestStats(t *testing.T) {
	for _, x := range []api.Tree{One(nil), One(pairs(1)), three(), laid(grown(0, 9, 0, shapes[2].pick))} {
		for _, w := range ways(x) {
			for _, stat := range []int{-maxStat, -maxStat + 1, -1, 0, 1, maxStat - 1, maxStat} {
				y := cloned(x)
				y.Nodes[w.Leaf].Stat = stat
				checkBe(t, "a Stat", y, y)
			}
			for _, stat := range []int{low, low + 1, -2 * maxStat, -maxStat - 1, maxStat + 1, 1 << 32, -1 << 32, high - 1, high} {
				y := cloned(x)
				y.Nodes[w.Leaf].Stat = stat
				checkNot(t, "a Stat beyond", y)
			}
		}
	}
}

// P14.1: a leaf's pairs that may not be, though each key may stand there.
func TestLeafPairs(t *testing.T) {
	for _, l := range [][]api.Pair{pairs(3, 3), pairs(4, 3), pairs(3, 4, 4), pairs(3, 4, 3)} {
		x := three()
		x.Nodes[3].Pairs = l
		checkNot(t, "a leaf's pairs", x)
		checkNot(t, "one leaf's pairs", api.Tree{Nodes: []api.Node{{Pairs: l}}})
	}
	for _, l := range [][]api.Pair{pairs(high, low), pairs(low, low), pairs(high, high), pairs(1, 0), pairs(0, 1, -1)} {
		checkNot(t, "one leaf's pairs", api.Tree{Nodes: []api.Node{{Pairs: l}}})
	}
	// Any key of many may stand beyond what the routes leave.
	for _, l := range [][]api.Pair{pairs(2, 3), pairs(2, 3, 4), pairs(3, 5), pairs(3, 4, 5), pairs(2, 5), pairs(low, 3), pairs(3, high), pairs(low, high)} {
		x := three()
		x.Nodes[3].Pairs = l
		checkNot(t, "a key beyond", x)
	}
}

// P14.1: each leaf of trees of each shape with each key at, below and above that
// of each route above it: next to it, and further up.
func TestLeafKeys(t *testing.T) {
	const n = 7
	for _, s := range shapes {
		plain := laid(grown(0, n, 0, s.pick))
		for i, w := range ways(plain) {
			for key := -15; key < 10*n+5; key++ {
				for _, l := range [][]api.Pair{pairs(key), pairs(key, high), pairs(low, key)} {
					x := cloned(plain)
					x.Nodes[w.Leaf].Pairs = l
					want := (i == 0 || 10*i-10 <= l[0].Key) && (i == n || l[len(l)-1].Key < 10*i)
					if May(x) != want {
						t.Fatalf("%s: leaf %d with %v: not %v", s.name, i, l, want)
					}
				}
			}
		}
	}
}

// P14.1: each route of trees of each shape with a Key at, below and above that of
// each route above it, and of each that is below it.
func TestRouteKeys(t *testing.T) {
	const n = 8
	for _, s := range shapes {
		plain := laid(grown(0, n, 0, s.pick))
		for at := range plain.Nodes {
			plain.Nodes[at].Pairs = nil
		}
		for at, m := range plain.Nodes {
			if !m.Route {
				continue
			}
			i := m.Key / 10
			for key := -15; key < 10*n+5; key++ {
				x := cloned(plain)
				x.Nodes[at].Key = key
				want := (i == 0 || 10*i-10 < key) && (i == n-1 || key < 10*i+10)
				if May(x) != want {
					t.Fatalf("%s: route %d at %d: not %v", s.name, i, key, want)
				}
			}
		}
	}
}

// P14.1: keys at the ends of int, and Keys of routes there.
func TestEnds(t *testing.T) {
	none := hold(0)
	rows := []struct {
		p   *part
		may bool
	}{
		{fork(low, none, hold(0, low)), true},
		{fork(low, none, hold(0, low, 0, high)), true},
		{fork(low, hold(0, low), none), false},
		{fork(low, hold(0, high), none), false},
		{fork(low+1, hold(0, low), hold(0, low+1)), true},
		{fork(low+1, hold(0, low+1), none), false},
		{fork(low+1, none, hold(0, low)), false},
		{fork(high, hold(0, low, high-1), hold(0, high)), true},
		{fork(high, hold(0, high), none), false},
		{fork(high, none, hold(0, high-1)), false},
		{fork(high, none, hold(0, low)), false},
		{fork(0, hold(0, low, -1), hold(0, 0, high)), true},
		{fork(0, none, hold(0, low)), false},
		{fork(0, hold(0, high), none), false},
		{fork(0, hold(0, low, 0), none), false},
		{fork(0, none, hold(0, -1, high)), false},
		{fork(0, fork(low, none, hold(0, low)), fork(high, hold(0, high-1), hold(0, high))), true},
		{fork(0, fork(low, none, hold(0, 0)), none), false},
		{fork(0, none, fork(high, hold(0, -1), none)), false},
		{fork(low, none, fork(low+1, hold(0, low), hold(0, low+1))), true},
		{fork(low, none, fork(low, none, none)), false},
		{fork(low, none, fork(high, none, none)), true},
		{fork(low, fork(low, none, none), none), false},
		{fork(low, fork(high, none, none), none), false},
		{fork(low, fork(low+1, none, none), none), false},
		{fork(high, fork(high-1, none, hold(0, high-1)), hold(0, high)), true},
		{fork(high, fork(high, none, none), none), false},
		{fork(high, fork(low, none, none), none), true},
		{fork(high, none, fork(high, none, none)), false},
		{fork(high, none, fork(low, none, none)), false},
		{fork(high, none, fork(high-1, none, none)), false},
		{fork(high, fork(low, none, hold(0, low, high-1)), hold(0, high)), true},
		{fork(low, none, fork(high, hold(0, low, high-1), hold(0, high))), true},
		{fork(1<<32, hold(0, 1, 2), hold(0, 1<<32)), true},
		{fork(1, none, hold(0, 1<<32)), true},
		{fork(1, hold(0, 1<<32), none), false},
	}
	for i, r := range rows {
		x := laid(r.p)
		if !r.may {
			checkNot(t, "at the ends", x)
		} else {
			checkBe(t, "at the ends", x, x)
		}
		if t.Failed() {
			t.Fatalf("row %d", i)
		}
	}
}

// mayBe is May by the document's words: each key is held against each route above
// it.
func mayBe(t api.Tree) bool {
	times := make([]int, len(t.Nodes))
	type up struct {
		key   int
		right bool
	}
	fits := func(key int, route bool, ups []up) bool {
		for _, u := range ups {
			if !u.right && key >= u.key || u.right && (key < u.key || route && key == u.key) {
				return false
			}
		}
		return true
	}
	var down func(at int, ups []up) bool
	down = func(at int, ups []up) bool {
		if at < 0 || at >= len(t.Nodes) || times[at] == 1 {
			return false
		}
		times[at]++
		n := t.Nodes[at]
		if n.Route {
			return len(n.Pairs) == 0 && n.Stat == 0 && fits(n.Key, true, ups) &&
				down(n.Left, append(slices.Clone(ups), up{n.Key, false})) && down(n.Right, append(slices.Clone(ups), up{n.Key, true}))
		}
		for i, p := range n.Pairs {
			if !fits(p.Key, false, ups) || i > 0 && n.Pairs[i-1].Key >= p.Key {
				return false
			}
		}
		return n.Key == 0 && n.Left == 0 && n.Right == 0 && -maxStat <= n.Stat && n.Stat <= maxStat
	}
	return len(t.Nodes) <= 2000 && down(t.Root, nil) && !slices.Contains(times, 0)
}

// rolls is numbers below n that follow from one another.
func rolls() func(n int) int {
	x := uint64(1)
	return func(n int) int {
		x = x*6364136223846793005 + 1442695040888963407
		return int(x>>33) % n
	}
}

// P14.1: trees changed in a few parts, against the document's words.
func TestMayChanged(t *testing.T) {
	roll := rolls()
	may := 0
	for range 30000 {
		x := laid(grown(0, roll(7), 0, shapes[roll(len(shapes))].pick))
		if len(x.Nodes)%2 == 1 {
			x = strewn(x, 2, roll(9))
		}
		for range roll(3) {
			n := &x.Nodes[roll(len(x.Nodes))]
			switch roll(8) {
			case 0:
				n.Key += roll(23) - 11
			case 1:
				n.Left += roll(5) - 2
			case 2:
				n.Right += roll(5) - 2
			case 3:
				n.Stat = (roll(5) - 2) * maxStat
			case 4:
				n.Left, n.Right = n.Right, n.Left
			case 5:
				x.Root = roll(len(x.Nodes)+2) - 1
			default:
				for i := range n.Pairs {
					n.Pairs[i].Key += roll(23) - 11
				}
			}
		}
		want := mayBe(x)
		if May(x) != want {
			t.Fatalf("May(%v) is not %v", x, want)
		}
		if want {
			may++
			checkLeaves(t, "changed", x)
		}
		if _, ok := Plain(x); ok != want || Same(x, x) != want {
			t.Fatalf("Plain or Same of %v is not %v", x, want)
		}
	}
	if may < 5000 || may > 25000 {
		t.Errorf("%d of the trees may be", may)
	}
}

// P14.1: one tree laid out in two ways is the same; one that is otherwise in any
// single part is not.
func TestSame(t *testing.T) {
	base := fork(5, fork(3, hold(7, 1, 2), hold(0, 3, 4)), hold(-1, 5, 9))
	other := []*part{
		fork(6, fork(3, hold(7, 1, 2), hold(0, 3, 4)), hold(-1, 9)),
		fork(5, fork(2, hold(7, 1), hold(0, 3, 4)), hold(-1, 5, 9)),
		fork(5, fork(3, hold(7, 1), hold(0, 3, 4)), hold(-1, 5, 9)),
		fork(5, fork(3, hold(7, 1, 2), hold(0, 4)), hold(-1, 5, 9)),
		fork(5, fork(3, hold(7, 1, 2), hold(0, 3, 4)), hold(-1, 5, 8)),
		fork(5, fork(3, hold(7, 1, 2), hold(0, 3, 4)), hold(-1, 5, 9, 10)),
		fork(5, fork(3, hold(7, 1, 2), hold(0, 3, 4)), hold(-1)),
		fork(5, fork(3, hold(6, 1, 2), hold(0, 3, 4)), hold(-1, 5, 9)),
		fork(5, fork(3, hold(7, 1, 2), hold(1, 3, 4)), hold(-1, 5, 9)),
		fork(5, fork(3, hold(7, 1, 2), hold(0, 3, 4)), hold(1, 5, 9)),
		fork(3, hold(7, 1, 2), fork(5, hold(0, 3, 4), hold(-1, 5, 9))),
		fork(5, hold(7, 1, 2, 3, 4), hold(-1, 5, 9)),
		fork(3, hold(7, 1, 2), hold(-1, 3, 4, 5, 9)),
		fork(5, fork(3, hold(7, 1, 2), hold(0, 3, 4)), fork(6, hold(-1, 5), hold(0, 9))),
		fork(5, fork(3, fork(0, hold(0), hold(7, 1, 2)), hold(0, 3, 4)), hold(-1, 5, 9)),
		hold(7, 1, 2, 3, 4, 5, 9), hold(0), hold(7),
	}
	val := fork(5, fork(3, hold(7, 1, 2), hold(0, 3, 4)), hold(-1, 5, 9))
	val.left.left.node.Pairs[1].Val++
	last := fork(5, fork(3, hold(7, 1, 2), hold(0, 3, 4)), hold(-1, 5, 9))
	last.right.node.Pairs[1].Val--
	all := append([]*part{base, val, last}, other...)
	for i, p := range all {
		for j, q := range all {
			x, y := laid(p), laid(q)
			for _, far := range []int{1, 2, 4} {
				if len(x.Nodes)%2 == 0 || !May(x) || !May(y) {
					t.Fatalf("%d or %d may not be", i, j)
				}
				g, same := guarded(strewn(x, far, j))
				h, too := guarded(strewn(y, far, i+1))
				if Same(g, h) != (i == j) || Same(h, g) != (i == j) || Same(x, h) != (i == j) {
					t.Errorf("Same of %d and %d is not %v", i, j, i == j)
				}
				same(t)
				too(t)
			}
		}
	}
}

// P14.1: Same where one of both, or both, may not be: no, however alike.
func TestSameNot(t *testing.T) {
	ok, not := three(), three()
	not.Nodes = append(not.Nodes, api.Node{})
	if Same(ok, not) || Same(not, ok) || Same(not, not) {
		t.Error("a node more")
	}
	not = three()
	not.Nodes[2].Stat = maxStat + 1
	if Same(ok, not) || Same(not, ok) || Same(not, cloned(not)) {
		t.Error("a stat beyond")
	}
	if Same(api.Tree{}, api.Tree{}) || Same(api.Tree{}, One(nil)) || Same(One(nil), api.Tree{}) {
		t.Error("nothing")
	}
	if !Same(One(nil), One([]api.Pair{})) || !Same(One(nil), api.Tree{Nodes: []api.Node{{Pairs: []api.Pair{}}}}) {
		t.Error("nil and empty are not one")
	}
}

// P14.1: One of no pairs, one, many, and of pairs that may not be.
func TestOne(t *testing.T) {
	var many []api.Pair
	for k := range 300 {
		many = append(many, api.Pair{Key: 3 * k, Val: -k})
	}
	for _, l := range [][]api.Pair{nil, {}, pairs(4), pairs(0), make([]api.Pair, 1), pairs(1, 2, 3), pairs(low, 0, high), many} {
		checkOne(t, l, l)
	}
	for _, l := range [][]api.Pair{pairs(2, 1), pairs(1, 1), pairs(1, 2, 2), pairs(1, 3, 2), pairs(high, low), make([]api.Pair, 2)} {
		checkOne(t, l, nil)
	}
}

// checkOne is One of a list with more behind it, twice.
func checkOne(t *testing.T, l, want []api.Pair) {
	t.Helper()
	whole := append(slices.Clone(l), pairs(low, high)...)
	was := slices.Clone(whole)
	for range 2 {
		x, y := One(whole[:len(l)]), One(whole[:len(l)])
		leaf := api.Tree{Nodes: []api.Node{{Pairs: want}}}
		if !alike(x, leaf) || !May(x) {
			t.Errorf("One(%v): %v", l, x)
		}
		spoilTree(t, x)
		if !alikePairs(whole, was) || !alike(y, leaf) {
			t.Fatalf("One(%v) shares memory: %v, %v", l, whole, y)
		}
		checkBe(t, "One", y, leaf)
	}
	x := One(whole[:len(l)])
	spoil(whole)
	if !alike(x, api.Tree{Nodes: []api.Node{{Pairs: want}}}) {
		t.Errorf("One(%v) keeps what it is handed", l)
	}
}

// checkFind is Find twice, of a tree with more behind its lists.
func checkFind(t *testing.T, x api.Tree, key int, want Path) {
	t.Helper()
	g, same := guarded(x)
	for range 2 {
		p, ok := Find(g, key)
		if !ok || !alikePath(p, want) {
			t.Fatalf("Find of %d: %v, %v, not %v", key, p, ok, want)
		}
		deep := len(want.Ups)
		if p.Top() != (deep == 0) || p.Right() != (deep > 0 && want.Rights[deep-1]) {
			t.Fatalf("Find of %d: %v: Top %v, Right %v", key, p, p.Top(), p.Right())
		}
		for i := range p.Ups {
			p.Ups[i], p.Rights[i] = 777, !p.Rights[i]
		}
	}
	same(t)
}

// P14.2: Find of each key that is there, between, of a route's own Key, and below
// and above all, in trees of each shape.
func TestFind(t *testing.T) {
	const n = 7
	for _, s := range shapes {
		for _, x := range []api.Tree{laid(grown(0, n, 0, s.pick)), strewn(laid(grown(0, n, 0, s.pick)), 2, 4)} {
			all := ways(x)
			for key := -15; key < 10*n+5; key++ {
				i := 0
				for i < n && 10*i <= key {
					i++
				}
				checkFind(t, x, key, all[i].Path)
			}
			for _, key := range []int{low, low + 1, -1 << 32} {
				checkFind(t, x, key, all[0].Path)
			}
			for _, key := range []int{1 << 32, high - 1, high} {
				checkFind(t, x, key, all[n].Path)
			}
		}
	}
	for _, key := range []int{low, -1, 0, 1, 9, high} {
		checkFind(t, One(nil), key, Path{})
		checkFind(t, One(pairs(0, 9)), key, Path{})
	}
}

// P14.2: Find by hand, with Ups from the root on.
func TestFindByHand(t *testing.T) {
	// 4 is the root; at 3, 1 on its left, and 0 on that one's right.
	x := api.Tree{Root: 4, Nodes: []api.Node{
		{Pairs: pairs(3, 4)}, {Route: true, Key: 3, Left: 2, Right: 0}, {Pairs: pairs(1)}, {Pairs: pairs(5)}, {Route: true, Key: 5, Left: 1, Right: 3},
	}}
	for key, want := range map[int]Path{
		low: {2, []int{4, 1}, []bool{false, false}}, 1: {2, []int{4, 1}, []bool{false, false}}, 2: {2, []int{4, 1}, []bool{false, false}},
		3: {0, []int{4, 1}, []bool{false, true}}, 4: {0, []int{4, 1}, []bool{false, true}},
		5: {3, []int{4}, []bool{true}}, 6: {3, []int{4}, []bool{true}}, high: {3, []int{4}, []bool{true}},
	} {
		checkFind(t, x, key, want)
	}
	ends := laid(fork(low, hold(0), fork(high, hold(0, low), hold(0, high))))
	checkFind(t, ends, low, Path{3, []int{0, 2}, []bool{true, false}})
	checkFind(t, ends, high-1, Path{3, []int{0, 2}, []bool{true, false}})
	checkFind(t, ends, high, Path{4, []int{0, 2}, []bool{true, true}})
}

// P14.2: Find in the deepest trees: all routes are above the last leaf.
func TestFindDeep(t *testing.T) {
	for _, s := range shapes[:4] {
		x := laid(grown(0, 999, 0, s.pick))
		deepest := 0
		for i, w := range ways(x) {
			if i%97 == 0 || len(w.Ups) == 999 {
				checkFind(t, x, 10*i-5, w.Path)
			}
			deepest = max(deepest, len(w.Ups))
		}
		if deepest != 999 {
			t.Errorf("%s: %d routes above", s.name, deepest)
		}
	}
}

// P14.2: Leaves and All by hand, empty leaves among them.
func TestLeavesAll(t *testing.T) {
	x := strewn(laid(fork(5, fork(3, hold(7, 1, 2), hold(0)), fork(7, hold(0), hold(0, 9)))), 2, 3)
	// The plain places 2 3 5 6 are at 0 2 6 1.
	if l := Leaves(x); !slices.Equal(l, []int{0, 2, 6, 1}) {
		t.Errorf("Leaves %v", l)
	}
	if l := All(x); !alikePairs(l, pairs(1, 2, 9)) {
		t.Errorf("All %v", l)
	}
	if l := Leaves(One(nil)); !slices.Equal(l, []int{0}) || len(All(One(nil))) != 0 {
		t.Errorf("of One: %v, %v", l, All(One(nil)))
	}
	if l := All(laid(fork(0, hold(0), hold(0)))); len(l) != 0 {
		t.Errorf("All of nothing: %v", l)
	}
}

// checkSet is Set twice, of a tree and a list with more behind their lists.
func checkSet(t *testing.T, x api.Tree, at int, l []api.Pair, stat int, want bool) {
	t.Helper()
	g, same := guarded(x)
	whole := append(slices.Clone(l), pairs(low, high)...)
	was := slices.Clone(whole)
	w := api.Tree{}
	if want {
		w = cloned(x)
		w.Nodes[at].Pairs, w.Nodes[at].Stat = slices.Clone(l), stat
	}
	for range 2 {
		u, ok := Set(g, at, whole[:len(l)], stat)
		v, _ := Set(g, at, whole[:len(l)], stat)
		if ok != want || !alike(u, w) {
			t.Fatalf("Set(%v, %d, %v, %d): %v, %v, not %v, %v", x, at, l, stat, u, ok, w, want)
		}
		if want {
			checkLeaves(t, "Set", u)
		}
		spoilTree(t, u)
		if !alike(v, w) || !alikePairs(whole, was) {
			t.Fatalf("Set shares memory: %v, %v", v, whole)
		}
		same(t)
	}
	u, _ := Set(g, at, whole[:len(l)], stat)
	spoil(whole)
	for i := range g.Nodes {
		spoil(g.Nodes[i].Pairs)
		g.Nodes[i] = api.Node{Key: 777}
	}
	if !alike(u, w) {
		t.Fatalf("Set keeps what it is handed: %v, not %v", u, w)
	}
}

// P14.2: Set of each leaf of trees of each shape, with each key that may stand
// there, and that may not.
func TestSet(t *testing.T) {
	const n = 5
	for _, s := range shapes {
		for _, x := range []api.Tree{laid(grown(0, n, 0, s.pick)), strewn(laid(grown(0, n, 0, s.pick)), 2, 5)} {
			for i, w := range ways(x) {
				checkSet(t, x, w.Leaf, nil, 0, true)
				checkSet(t, x, w.Leaf, w.pairs, x.Nodes[w.Leaf].Stat, true)
				checkSet(t, x, w.Leaf, pairs(10*i-10, 10*i-7, 10*i-1), 9-i, true)
				for _, d := range []int{-30, -11, -10, -9, -1, 0, 1, 10} {
					key := 10*i + d
					may := (i == 0 || 10*i-10 <= key) && (i == n || key < 10*i)
					checkSet(t, x, w.Leaf, pairs(key), 1, may)
				}
				checkSet(t, x, w.Leaf, pairs(low), 0, i == 0)
				checkSet(t, x, w.Leaf, pairs(high), 0, i == n)
			}
		}
	}
}

// P14.2: Set of what is no leaf, of pairs that may not be, and of Stats at and
// beyond their bounds.
func TestSetNot(t *testing.T) {
	x := strewn(three(), 2, 3)
	for at, n := range x.Nodes {
		for _, stat := range []int{-maxStat, -1, 0, 1, maxStat} {
			checkSet(t, x, at, nil, stat, !n.Route)
			checkSet(t, x, at, n.Pairs, stat, !n.Route)
		}
		for _, stat := range []int{low, -maxStat - 1, maxStat + 1, 1 << 32, high} {
			checkSet(t, x, at, n.Pairs, stat, false)
		}
		for _, l := range [][]api.Pair{pairs(4, 3), pairs(3, 3), pairs(2, 1), pairs(1, 1), pairs(9, 5), pairs(7, 7)} {
			checkSet(t, x, at, l, 0, false)
		}
	}
	for _, at := range []int{low, -5, -1, 5, 6, 7, 1 << 32, 1<<32 + 1, high} {
		checkSet(t, x, at, nil, 0, false)
		checkSet(t, One(nil), at, nil, 0, false)
	}
	for _, l := range [][]api.Pair{nil, pairs(0), pairs(low, high)} {
		for _, stat := range []int{-maxStat, 0, maxStat} {
			checkSet(t, One(pairs(3)), 0, l, stat, true)
		}
	}
	checkSet(t, One(nil), 0, pairs(1, 1), 0, false)
	checkSet(t, One(nil), 0, nil, maxStat+1, false)
}

// P14.2: Set mends no tree: what may not be is refused, also where the leaf anew
// would do.
func TestSetMendsNot(t *testing.T) {
	for i, change := range []func(n *api.Node){
		func(n *api.Node) { n.Pairs = pairs(2) }, func(n *api.Node) { n.Pairs = pairs(4, 3) }, func(n *api.Node) { n.Stat = maxStat + 1 },
		func(n *api.Node) { n.Key = 1 }, func(n *api.Node) { n.Left = 1 }, func(n *api.Node) { n.Right = 1 },
	} {
		x := three()
		change(&x.Nodes[3])
		if u, ok := Set(x, 3, pairs(3), 0); ok || len(u.Nodes) != 0 {
			t.Errorf("%d: %v", i, u)
		}
	}
}

// P14.2: Set of many leaves, one after the other: the last of each holds; the
// trees between stay as they were told.
func TestSetInTurn(t *testing.T) {
	x := strewn(laid(grown(0, 4, 0, shapes[4].pick)), 2, 3)
	want := cloned(x)
	told, wants := []api.Tree{x}, []api.Tree{cloned(x)}
	all := ways(x)
	for i := range 3 * len(all) {
		w := all[i*2%len(all)]
		l := pairs(10*(i*2%len(all))-3-i%2, 10*(i*2%len(all))-1)
		u, ok := Set(told[i], w.Leaf, l, i)
		want.Nodes[w.Leaf].Pairs, want.Nodes[w.Leaf].Stat = l, i
		if !ok || !alike(u, want) {
			t.Fatalf("%d: %v, %v, not %v", i, u, ok, want)
		}
		told, wants = append(told, u), append(wants, cloned(want))
	}
	for i := range told {
		if !alike(told[i], wants[i]) {
			t.Errorf("%d is %v now, not %v", i, told[i], wants[i])
		}
	}
}

// P14.2, R2: Set of the tree's own lists: what is told has none of them.
func TestSetOwnLists(t *testing.T) {
	x := three()
	for _, at := range []int{2, 3, 4} {
		u, ok := Set(x, at, x.Nodes[at].Pairs, 1)
		if !ok {
			t.Fatalf("Set of %d", at)
		}
		spoilTree(t, u)
		if !alike(x, three()) {
			t.Fatalf("Set of %d shares memory: %v", at, x)
		}
	}
	// Two leaves whose empty lists are of one array.
	back := pairs(1, 2, 3)
	y := api.Tree{Nodes: []api.Node{{Route: true, Key: 5, Left: 1, Right: 2, Pairs: back[:0]}, {Pairs: back[:0]}, {Pairs: back[:0]}}}
	p, _ := Plain(y)
	u, _ := Set(y, 1, back[:0], 0)
	for _, z := range []api.Tree{p, u} {
		for i := range z.Nodes {
			z.Nodes[i].Pairs = append(z.Nodes[i].Pairs, api.Pair{Key: i})
		}
		for i := range z.Nodes {
			if z.Nodes[i].Pairs[0].Key != i {
				t.Errorf("lists share memory: %v", z)
			}
		}
	}
	if !alikePairs(back, pairs(1, 2, 3)) {
		t.Errorf("what lies behind is %v", back)
	}
}

// P14.2, R2: what is told stays as it was told, whatever becomes of what was
// handed in.
func TestNotKept(t *testing.T) {
	x := strewn(three(), 2, 1)
	p, _ := Plain(x)
	l, m := Leaves(x), All(x)
	f, _ := Find(x, 4)
	s := ways(x)[1].Path
	want := slices.Clone(l)
	spoilTree(t, x)
	if !alike(p, three()) || !slices.Equal(l, want) || !alikePairs(m, pairs(1, 2, 3, 4, 5, 9)) || !alikePath(f, s) {
		t.Errorf("%v, %v, %v, %v", p, l, m, f)
	}
	checkNot(t, "spoilt", x)
}

// P14.2: Top and Right of paths of no, one and many routes, and of paths made by
// hand whose lists are not of one length (R3): what counts is the side that is
// told of the lowest route, and there is none where none is told.
func TestPath(t *testing.T) {
	no, yes := false, true
	for i, r := range []struct {
		ups        []int
		rights     []bool
		top, right bool
	}{
		{nil, nil, true, false},
		{[]int{}, []bool{}, true, false},
		{[]int{0}, []bool{no}, false, false},
		{[]int{0}, []bool{yes}, false, true},
		{[]int{3, 2}, []bool{no, no}, false, false},
		{[]int{3, 2}, []bool{yes, no}, false, false},
		{[]int{3, 2}, []bool{no, yes}, false, true},
		{[]int{3, 2}, []bool{yes, yes}, false, true},
		{[]int{9, 8, 7, 6}, []bool{yes, yes, yes, no}, false, false},
		{[]int{9, 8, 7, 6}, []bool{no, no, no, yes}, false, true},
		{[]int{-1}, []bool{yes}, false, true},
		{nil, []bool{yes}, true, false},
		{[]int{}, []bool{yes, yes}, true, false},
		{[]int{3}, nil, false, false},
		{[]int{3, 2}, []bool{}, false, false},
		{[]int{3, 2}, []bool{yes}, false, false},
		{[]int{3, 2, 1}, []bool{yes, yes}, false, false},
		{[]int{3}, []bool{yes, no}, false, true},
		{[]int{3}, []bool{no, yes}, false, false},
		{[]int{3, 2}, []bool{no, yes, no}, false, true},
		// What lies behind a list's length is not read.
		{[]int{3, 2}[:0], []bool{yes, yes}, true, false},
		{[]int{3, 2}, []bool{yes, yes}[:1], false, false},
		{[]int{3, 2}[:1], []bool{no, yes}[:1], false, false},
		{[]int{3, 2}[:0], []bool{yes, yes}[:0], true, false},
	} {
		for _, at := range []int{low, -1, 0, 1, high} {
			p := Path{Leaf: at, Ups: r.ups, Rights: r.rights}
			ups, rights := slices.Clone(r.ups), slices.Clone(r.rights)
			for range 2 {
				if p.Top() != r.top || p.Right() != r.right {
					t.Errorf("%d: Top %v, Right %v", i, p.Top(), p.Right())
				}
			}
			if !slices.Equal(p.Ups, ups) || !slices.Equal(p.Rights, rights) || p.Leaf != at {
				t.Errorf("%d is %v now", i, p)
			}
		}
	}
}

// P14.3: each pair of a tree that may be is in the leaf that Find tells; put into
// any other leaf the tree may not be.
func TestOnlyLeaf(t *testing.T) {
	for _, s := range shapes {
		for n := range 9 {
			x := strewn(laid(grown(0, n, 0, s.pick)), 2, 2*n)
			for _, p := range All(x) {
				checkOnly(t, x, p)
			}
			for key := -15; key < 10*n+5; key += 3 {
				checkOnly(t, x, api.Pair{Key: key})
			}
			checkOnly(t, x, api.Pair{Key: low})
			checkOnly(t, x, api.Pair{Key: high})
		}
	}
}

// checkOnly puts a pair into each leaf: it may stand in that which Find tells
// alone. Each way of putting it is tried, by Set and by hand.
func checkOnly(t *testing.T, x api.Tree, p api.Pair) {
	t.Helper()
	found, ok := Find(x, p.Key)
	if !ok {
		t.Fatalf("Find of %d in %v: no", p.Key, x)
	}
	for _, at := range Leaves(x) {
		holds := slices.Contains(x.Nodes[at].Pairs, p)
		if holds && at != found.Leaf {
			t.Errorf("%v is in %d, but found in %d", p, at, found.Leaf)
		}
		l := slices.Clone(x.Nodes[at].Pairs)
		if i, is := slices.BinarySearchFunc(l, p.Key, func(q api.Pair, key int) int {
			switch {
			case q.Key < key:
				return -1
			case q.Key > key:
				return 1
			}
			return 0
		}); !is {
			l = slices.Insert(l, i, p)
		}
		y := cloned(x)
		y.Nodes[at].Pairs = l
		_, set := Set(x, at, l, 0)
		if May(y) != (at == found.Leaf) || set != (at == found.Leaf) {
			t.Errorf("%v in %d, found in %d: May %v, Set %v", p, at, found.Leaf, May(y), set)
		}
	}
}

// The chapter's example: One is a leaf.
func TestExample(t *testing.T) {
	x := One(pairs(1, 2))
	if len(x.Nodes) != 1 || x.Nodes[x.Root].Route || !alikePairs(x.Nodes[0].Pairs, pairs(1, 2)) || x.Nodes[0].Stat != 0 {
		t.Errorf("%v", x)
	}
}

// P14.1: the bound of stats is the document's.
func TestNumbers(t *testing.T) {
	if api.MaxStat != maxStat {
		t.Errorf("MaxStat %d", api.MaxStat)
	}
}
