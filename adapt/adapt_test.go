package adapt

import (
	"math"
	"slices"
	"testing"

	"osier/api"
	"osier/tree"
)

// The ends of int, and the bounds of stats and policies, by the document.
const (
	low       = math.MinInt
	high      = math.MaxInt
	maxStat   = 1000000
	maxPolicy = 100000
)

// part is a leaf, or a route with what hangs on it, ahead of being laid out.
type part struct {
	node        api.Node
	left, right *part
}

// pairs is pairs of these keys, whose values are ten times as much and one more.
func pairs(keys ...int) []api.Pair {
	var l []api.Pair
	for _, k := range keys {
		l = append(l, api.Pair{Key: k, Val: k*10 + 1})
	}
	return l
}

// of is a leaf of that stat with these pairs.
func of(stat int, l []api.Pair) *part {
	return &part{node: api.Node{Pairs: l, Stat: stat}}
}

// hold is a leaf of that stat with pairs of these keys.
func hold(stat int, keys ...int) *part {
	return of(stat, pairs(keys...))
}

// fork is a route.
func fork(key int, left, right *part) *part {
	return &part{api.Node{Route: true, Key: key}, left, right}
}

// leaves is the leaves, from left to right.
func (p *part) leaves() []*part {
	if !p.node.Route {
		return []*part{p}
	}
	return append(p.left.leaves(), p.right.leaves()...)
}

// laid is the tree of these parts in plain order, and where each of them stands,
// worked out without the package.
func laid(p *part) (api.Tree, map[*part]int) {
	var t api.Tree
	places := map[*part]int{}
	var lay func(p *part) int
	lay = func(p *part) int {
		at := len(t.Nodes)
		places[p] = at
		n := p.node
		n.Pairs = slices.Clone(n.Pairs)
		t.Nodes = append(t.Nodes, n)
		if n.Route {
			left := lay(p.left)
			right := lay(p.right)
			t.Nodes[at].Left, t.Nodes[at].Right = left, right
		}
		return at
	}
	lay(p)
	return t, places
}

// plain is the tree of these parts in plain order.
func plain(p *part) api.Tree {
	t, _ := laid(p)
	return t
}

// splitOf is the parts with that leaf in two, by the document's words.
func splitOf(p, leaf *part) *part {
	switch {
	case p == leaf:
		l := p.node.Pairs
		half := len(l) / 2
		return fork(l[half].Key, of(0, l[:half]), of(0, l[half:]))
	case !p.node.Route:
		return p
	}
	return fork(p.node.Key, splitOf(p.left, leaf), splitOf(p.right, leaf))
}

// nextOf is the leaf's neighbour, by the document's words (nil: none).
func nextOf(p, leaf *part) *part {
	switch {
	case !p.node.Route:
		return nil
	case p.left == leaf:
		return p.right.leaves()[0]
	case p.right == leaf:
		l := p.left.leaves()
		return l[len(l)-1]
	}
	if next := nextOf(p.left, leaf); next != nil {
		return next
	}
	return nextOf(p.right, leaf)
}

// joinOf is the parts with that leaf in its neighbour, by the document's words.
func joinOf(p, leaf *part) *part {
	next := nextOf(p, leaf)
	var both []api.Pair
	for _, l := range p.leaves() {
		if l == leaf || l == next {
			both = append(both, l.node.Pairs...)
		}
	}
	var anew func(p *part) *part
	anew = func(p *part) *part {
		switch {
		case p == next:
			return of(0, both)
		case !p.node.Route:
			return p
		case p.left == leaf:
			return anew(p.right)
		case p.right == leaf:
			return anew(p.left)
		}
		return fork(p.node.Key, anew(p.left), anew(p.right))
	}
	return anew(p)
}

// layout is where the node of a plain place stands, of so many.
type layout struct {
	name string
	to   func(at, nodes int) int
}

// layouts are some whose places are no two the same, as there is always an odd
// number of nodes.
var layouts = []layout{
	{"plain", func(at, _ int) int { return at }},
	{"backwards", func(at, nodes int) int { return nodes - 1 - at }},
	{"strewn", func(at, nodes int) int { return (2*at + nodes/3) % nodes }},
}

// moved is the same tree with its nodes at the layout's places.
func moved(t api.Tree, y layout) api.Tree {
	n := len(t.Nodes)
	u := api.Tree{Root: y.to(t.Root, n), Nodes: make([]api.Node, n)}
	for i, m := range t.Nodes {
		if m.Route {
			m.Left, m.Right = y.to(m.Left, n), y.to(m.Right, n)
		}
		m.Pairs = slices.Clone(m.Pairs)
		u.Nodes[y.to(i, n)] = m
	}
	return u
}

// cloned is the same tree in memory of its own.
func cloned(t api.Tree) api.Tree {
	u := api.Tree{Root: t.Root, Nodes: slices.Clone(t.Nodes)}
	for i := range u.Nodes {
		u.Nodes[i].Pairs = slices.Clone(u.Nodes[i].Pairs)
	}
	return u
}

// alikeNodes and alike hold things against each other place by place.
func alikeNodes(a, b []api.Node) bool {
	return slices.EqualFunc(a, b, func(m, n api.Node) bool {
		return m.Route == n.Route && m.Key == n.Key && m.Left == n.Left && m.Right == n.Right && m.Stat == n.Stat && slices.Equal(m.Pairs, n.Pairs)
	})
}

func alike(t, u api.Tree) bool {
	return t.Root == u.Root && alikeNodes(t.Nodes, u.Nodes)
}

// guarded is the tree with more behind each of its lists, and a check that all of
// it is as it was. All pairs lie behind one another in one array, so that who
// adds to a list writes over what is no part of it.
func guarded(t api.Tree) (api.Tree, func(*testing.T)) {
	var back []api.Pair
	for _, n := range t.Nodes {
		back = append(append(back, n.Pairs...), api.Pair{Key: 666, Val: 666})
	}
	nodes := slices.Clone(t.Nodes)
	from := 0
	for i, n := range nodes {
		to := from + len(n.Pairs)
		nodes[i].Pairs = back[from:to]
		from = to + 1
	}
	nodes = append(nodes, api.Node{Key: 666, Stat: 666}, api.Node{Route: true, Key: 666, Left: 1, Right: 2}, api.Node{})
	wasNodes, wasBack := cloned(api.Tree{Nodes: nodes}).Nodes, slices.Clone(back)
	g := api.Tree{Root: t.Root, Nodes: nodes[:len(t.Nodes)]}
	return g, func(x *testing.T) {
		x.Helper()
		if !alikeNodes(nodes, wasNodes) || !slices.Equal(back, wasBack) {
			x.Fatalf("what was handed in is %v, %v now", nodes, back)
		}
	}
}

// spoil writes over all of a list of pairs, and over what its capacity holds.
func spoil(l []api.Pair) {
	l = l[:cap(l)]
	for i := range l {
		l[i] = api.Pair{Key: 777, Val: 777}
	}
}

// spoilTree writes over all of a tree, one list after the other, and checks that
// each one's pairs are its own.
func spoilTree(t *testing.T, u api.Tree) {
	t.Helper()
	was := cloned(u)
	for i := range u.Nodes {
		spoil(u.Nodes[i].Pairs)
		was.Nodes[i].Pairs = make([]api.Pair, len(was.Nodes[i].Pairs))
		spoil(was.Nodes[i].Pairs)
		if len(u.Nodes) < 50 && !alike(u, was) {
			t.Fatalf("the pairs of node %d are those of another one too: %v", i, u)
		}
	}
	all := u.Nodes[:cap(u.Nodes)]
	for i := range all {
		all[i] = api.Node{Key: 777, Left: 777}
	}
}

// checkTree is a call that tells a tree and whether there is one: what it tells
// of x, that this is new memory, and that x is neither changed nor kept.
func checkTree(t *testing.T, name string, x, want api.Tree, told bool, call func(api.Tree) (api.Tree, bool)) {
	t.Helper()
	g, same := guarded(x)
	for range 2 {
		u, ok := call(g)
		v, _ := call(g)
		if ok != told || !alike(u, want) {
			t.Fatalf("%s: %v, %v, not %v, %v", name, u, ok, want, told)
		}
		spoilTree(t, u)
		if !alike(v, want) {
			t.Fatalf("%s: two answers share memory: %v", name, v)
		}
		same(t)
	}
	u, _ := call(g)
	for i := range g.Nodes {
		spoil(slices.Clip(g.Nodes[i].Pairs))
		g.Nodes[i] = api.Node{Key: 777}
	}
	if !alike(u, want) {
		t.Fatalf("%s: %v is kept of what was handed in, not %v", name, u, want)
	}
}

// checkSplit is Split of a leaf (want nil: no).
func checkSplit(t *testing.T, x api.Tree, at int, want *part) {
	t.Helper()
	var w api.Tree
	if want != nil {
		w = plain(want)
	}
	checkTree(t, "Split", x, w, want != nil, func(g api.Tree) (api.Tree, bool) { return Split(g, at) })
}

// checkJoin is Join of a leaf (want nil: no).
func checkJoin(t *testing.T, x api.Tree, at int, want *part) {
	t.Helper()
	var w api.Tree
	if want != nil {
		w = plain(want)
	}
	checkTree(t, "Join", x, w, want != nil, func(g api.Tree) (api.Tree, bool) { return Join(g, at) })
}

// checkNext is Next of a leaf.
func checkNext(t *testing.T, x api.Tree, at, want int, ok bool) {
	t.Helper()
	g, same := guarded(x)
	for range 2 {
		if n, is := Next(g, at); n != want || is != ok {
			t.Fatalf("Next of %d in %v: %d, %v, not %d, %v", at, x, n, is, want, ok)
		}
	}
	same(t)
}

// checkBend is Bend of a leaf.
func checkBend(t *testing.T, x api.Tree, p api.Policy, at int, want *part, what int) {
	t.Helper()
	checkTree(t, "Bend", x, plain(want), true, func(g api.Tree) (api.Tree, bool) {
		u, did := Bend(g, p, at)
		if did != what {
			t.Fatalf("Bend of %d under %v in %v: %d, not %d", at, p, x, did, what)
		}
		return u, true
	})
}

// checkLeaf is all calls on one leaf of these parts, as they are laid out.
func checkLeaf(t *testing.T, p, leaf *part, y layout) {
	t.Helper()
	u, places := laid(p)
	x := moved(u, y)
	at := y.to(places[leaf], len(x.Nodes))
	var split, join *part
	if len(leaf.node.Pairs) > 1 && len(x.Nodes) < 1999 {
		split = splitOf(p, leaf)
	}
	next := nextOf(p, leaf)
	if next != nil {
		join = joinOf(p, leaf)
		checkNext(t, x, at, y.to(places[next], len(x.Nodes)), true)
	} else {
		checkNext(t, x, at, 0, false)
	}
	checkSplit(t, x, at, split)
	checkJoin(t, x, at, join)
	checkBends(t, p, leaf, y, split, join)
}

// checkBends is Bend of one leaf whose stat asks for each thing, where split and
// join are what can come of it (nil: nothing can).
func checkBends(t *testing.T, p, leaf *part, y layout, split, join *part) {
	t.Helper()
	was := leaf.node.Stat
	defer func() { leaf.node.Stat = was }()
	for _, r := range []struct {
		stat int
		want *part
		what int
	}{{9, split, api.Split}, {8, nil, api.Leave}, {0, nil, api.Leave}, {-7, nil, api.Leave}, {-8, join, api.Join}} {
		leaf.node.Stat = r.stat
		u, places := laid(p)
		want, what := r.want, r.what
		if want == nil {
			want, what = p, api.Leave
		}
		checkBend(t, moved(u, y), api.Policy{High: 8, Low: -7}, y.to(places[leaf], len(u.Nodes)), want, what)
	}
}

// checkNot is all calls on a place that is no leaf's, or of a tree that may not
// be: zero and no.
func checkNot(t *testing.T, name string, x api.Tree, at int) {
	t.Helper()
	g, same := guarded(x)
	if u, ok := Split(g, at); ok || u.Root != 0 || len(u.Nodes) != 0 {
		t.Errorf("%s: Split of %d: %v, %v", name, at, u, ok)
	}
	if u, ok := Join(g, at); ok || u.Root != 0 || len(u.Nodes) != 0 {
		t.Errorf("%s: Join of %d: %v, %v", name, at, u, ok)
	}
	if n, ok := Next(g, at); ok || n != 0 {
		t.Errorf("%s: Next of %d: %d, %v", name, at, n, ok)
	}
	for _, p := range []api.Policy{{}, {High: 1, Low: -1}, {High: maxPolicy, Low: -maxPolicy}, {High: low, Low: high}} {
		if u, did := Bend(g, p, at); did != api.Leave || u.Root != 0 || len(u.Nodes) != 0 {
			t.Errorf("%s: Bend of %d: %v, %d", name, at, u, did)
		}
	}
	same(t)
}

// checkNoTree is all calls on many places of a tree that may not be.
func checkNoTree(t *testing.T, name string, x api.Tree) {
	t.Helper()
	for _, at := range []int{low, -1, 0, 1, 2, 3, 4, 5, 6, len(x.Nodes) - 1, len(x.Nodes), high} {
		checkNot(t, name, x, at)
	}
}

// grown is a part with routes at ten times each of from .. to - 1, of which pick
// says the topmost one, and leaves between them. Leaf i lies ahead of route i: it
// has none to four pairs, from the route ahead of it on to just below its own, and
// the stats differ.
func grown(from, to, deep int, pick func(from, to, deep int) int) *part {
	if from == to {
		keys := []int{10*from - 10, 10*from - 1, 10*from - 4, 10*from - 9}[:from%5]
		slices.Sort(keys)
		return hold(from-3, keys...)
	}
	k := pick(from, to, deep)
	return fork(10*k, grown(from, k, deep+1, pick), grown(k+1, to, deep+1, pick))
}

// shapes is what may be the topmost of some routes.
var shapes = []struct {
	name string
	pick func(from, to, deep int) int
}{
	{"to the left", func(_, to, _ int) int { return to - 1 }},
	{"to the right", func(from, _, _ int) int { return from }},
	{"in turn", func(from, to, deep int) int {
		if deep%2 == 0 {
			return from
		}
		return to - 1
	}},
	{"in turn, the other way", func(from, to, deep int) int {
		if deep%2 == 1 {
			return from
		}
		return to - 1
	}},
	{"even", func(from, to, _ int) int { return (from + to) / 2 }},
	{"lopsided", func(from, to, _ int) int { return (2*from + to) / 3 }},
}

// every is all parts of so many routes, with leaves as grown has them.
func every(from, to int) []*part {
	if from == to {
		return []*part{grown(from, to, 0, nil)}
	}
	var all []*part
	for k := from; k < to; k++ {
		for _, l := range every(from, k) {
			for _, r := range every(k+1, to) {
				all = append(all, fork(10*k, l, r))
			}
		}
	}
	return all
}

// P15.1 to P15.3: each leaf of each tree of few routes, and of trees of more
// routes in some shapes, laid out in many ways.
func TestEachLeaf(t *testing.T) {
	var all []*part
	for n := range 6 {
		all = append(all, every(0, n)...)
	}
	for _, s := range shapes {
		all = append(all, grown(0, 13, 0, s.pick))
	}
	for _, p := range all {
		for _, leaf := range p.leaves() {
			for _, y := range layouts {
				checkLeaf(t, p, leaf, y)
			}
		}
	}
}

// P15.1: a leaf that is the whole tree, of no pairs to many: what stands left and
// right, and the route's Key, counted by hand.
func TestSplitOne(t *testing.T) {
	for n, left := range []int{0, 0, 1, 1, 2, 2, 3, 3, 4, 4, 5} {
		checkSplitOne(t, n, left)
	}
	checkSplitOne(t, 100, 50)
	checkSplitOne(t, 101, 50)
	checkSplitOne(t, 4096, 2048)
	checkSplitOne(t, 4999, 2499)
}

// checkSplitOne is Split of a leaf of n pairs, left of which go left.
func checkSplitOne(t *testing.T, n, left int) {
	t.Helper()
	for _, stat := range []int{-maxStat, -1, 0, 1, maxStat} {
		var l []api.Pair
		for i := range n {
			l = append(l, api.Pair{Key: 7*i - 20, Val: -i})
		}
		var want *part
		if n > 1 {
			want = fork(7*left-20, of(0, l[:left]), of(0, l[left:]))
		}
		checkSplit(t, plain(of(stat, l)), 0, want)
	}
}

// P15.1: two pairs (Key that of the second), three (one left, two right), at any
// place; the other leaves keep their stats.
func TestSplitByHand(t *testing.T) {
	a, b, c := hold(7, 1, 2), hold(-8, 3, 4, 5), hold(9, 6)
	p := fork(6, fork(3, a, b), c)
	x := moved(plain(p), layouts[1])
	// The plain places 0 1 2 3 4 are at 4 3 2 1 0.
	checkSplit(t, x, 2, fork(6, fork(3, fork(2, hold(0, 1), hold(0, 2)), b), c))
	checkSplit(t, x, 1, fork(6, fork(3, a, fork(4, hold(0, 3), hold(0, 4, 5))), c))
	checkSplit(t, x, 0, nil)
	u, ok := Split(x, 1)
	want := api.Tree{Nodes: []api.Node{
		{Route: true, Key: 6, Left: 1, Right: 6}, {Route: true, Key: 3, Left: 2, Right: 3}, {Pairs: pairs(1, 2), Stat: 7},
		{Route: true, Key: 4, Left: 4, Right: 5}, {Pairs: pairs(3)}, {Pairs: pairs(4, 5)}, {Pairs: pairs(6), Stat: 9},
	}}
	if !ok || !alike(u, want) {
		t.Errorf("%v, %v, not %v", u, ok, want)
	}
}

// P15.1, P15.2: keys at the ends of int, and Keys of routes there.
func TestEnds(t *testing.T) {
	none := hold(0)
	for _, r := range []struct {
		p    *part
		leaf int
		key  int
	}{
		{hold(1, low, high), 0, high},
		{hold(1, low, low+1), 0, low + 1},
		{hold(1, high-1, high), 0, high},
		{hold(1, low, -1, high), 0, -1},
		{hold(1, low, -1, 0, high), 0, 0},
		{hold(1, 1, 1<<32, 1<<32+1), 0, 1 << 32},
		{fork(low, none, hold(3, low, high)), 1, high},
		{fork(low, none, hold(3, low, low+1, high)), 1, low + 1},
		{fork(high, hold(3, low, high-1), none), 0, high - 1},
		{fork(high, hold(3, low, low+1, 0, high-1), hold(2, high)), 0, 0},
		{fork(0, hold(5, low, -1), hold(6, 0, high)), 0, -1},
		{fork(0, hold(5, low, -1), hold(6, 0, high)), 1, high},
		{fork(low, none, fork(high, hold(4, low, high-1), hold(5, high))), 1, high - 1},
	} {
		for _, y := range layouts {
			leaf := r.p.leaves()[r.leaf]
			checkLeaf(t, r.p, leaf, y)
			u, places := laid(r.p)
			at := places[leaf]
			if s, ok := Split(u, at); !ok || s.Nodes[at].Key != r.key {
				t.Errorf("%v: Key %d, not %d", u, s.Nodes[at].Key, r.key)
			}
		}
	}
}

// P15.1: as many nodes as there can be come of 1997, and none of 1999, from which
// leaves can be joined all the same.
func TestMost(t *testing.T) {
	for i, s := range shapes {
		for _, n := range []int{998, 999} {
			p := grown(0, n, 0, s.pick)
			l := p.leaves()
			// All of these have two pairs or more.
			for _, leaf := range []*part{l[2], l[503], l[994], l[n]} {
				y := layouts[i%len(layouts)]
				checkLeaf(t, p, leaf, y)
				u, places := laid(p)
				v, ok := Split(moved(u, y), y.to(places[leaf], len(u.Nodes)))
				if ok != (n == 998) || ok && len(v.Nodes) != 1999 {
					t.Errorf("%s: Split of %d nodes: %v, %d", s.name, len(u.Nodes), ok, len(v.Nodes))
				}
			}
		}
	}
}

// deep is leaves a to f, of which many have a neighbour deep in the other side.
// The plain places are 2 4 5 8 9 10.
func deep() *part {
	return fork(50, fork(20, hold(1, 10, 11), fork(30, hold(2, 20), hold(3, 30, 31))), fork(70, fork(60, hold(4, 50), hold(5, 60, 66)), hold(6, 70)))
}

// P15.2: Next by hand, in the plain order and in another one.
func TestNextByHand(t *testing.T) {
	x, z := plain(deep()), moved(plain(deep()), layouts[1])
	for at, next := range map[int]int{2: 4, 4: 5, 5: 4, 8: 9, 9: 8, 10: 9} {
		checkNext(t, x, at, next, true)
		checkNext(t, z, 10-at, 10-next, true)
	}
	root := fork(50, hold(0, 1), fork(70, fork(60, hold(0, 50), hold(0, 60)), hold(0, 70)))
	checkNext(t, plain(root), 1, 4, true)
	checkNext(t, plain(fork(70, fork(50, hold(0), fork(60, hold(0), hold(0))), hold(0))), 6, 5, true)
	checkNext(t, plain(fork(0, hold(0), hold(0))), 1, 2, true)
	checkNext(t, plain(fork(0, hold(0), hold(0))), 2, 1, true)
	checkNext(t, plain(hold(3, 1, 2)), 0, 0, false)
}

// P15.2: Join by hand: each leaf of deep, and of what has the root above it.
func TestJoinByHand(t *testing.T) {
	l := deep().leaves()
	a, b, c, d, e, f := l[0], l[1], l[2], l[3], l[4], l[5]
	left := fork(20, a, fork(30, b, c))
	right := fork(70, fork(60, d, e), f)
	for at, want := range map[int]*part{
		2:  fork(50, fork(30, hold(0, 10, 11, 20), c), right),
		4:  fork(50, fork(20, a, hold(0, 20, 30, 31)), right),
		5:  fork(50, fork(20, a, hold(0, 20, 30, 31)), right),
		8:  fork(50, left, fork(70, hold(0, 50, 60, 66), f)),
		9:  fork(50, left, fork(70, hold(0, 50, 60, 66), f)),
		10: fork(50, left, fork(60, d, hold(0, 60, 66, 70))),
	} {
		checkJoin(t, plain(deep()), at, want)
		checkJoin(t, moved(plain(deep()), layouts[1]), 10-at, want)
	}
	checkJoin(t, plain(fork(50, a, right)), 1, fork(70, fork(60, hold(0, 10, 11, 50), e), f))
	checkJoin(t, plain(fork(50, left, f)), 6, fork(20, a, fork(30, b, hold(0, 30, 31, 70))))
	checkJoin(t, plain(fork(50, a, f)), 1, hold(0, 10, 11, 70))
	checkJoin(t, plain(fork(50, a, f)), 2, hold(0, 10, 11, 70))
	checkJoin(t, plain(a), 0, nil)
}

// P15.2: Join of empty leaves, into empty leaves, and both.
func TestJoinEmpty(t *testing.T) {
	none, some, two := hold(-9), hold(9, 5, 6), hold(8, 1)
	for _, y := range layouts {
		for _, r := range []struct {
			p    *part
			want *part
		}{
			{fork(5, none, some), hold(0, 5, 6)},
			{fork(9, some, none), hold(0, 5, 6)},
			{fork(0, none, hold(3)), hold(0)},
		} {
			x := moved(plain(r.p), y)
			checkJoin(t, x, y.to(1, 3), r.want)
			checkJoin(t, x, y.to(2, 3), r.want)
		}
		// The plain places are 1 for the first leaf, 3 and 4 for the others.
		checkJoin(t, moved(plain(fork(3, two, fork(5, none, some))), y), y.to(1, 5), fork(5, hold(0, 1), some))
		checkJoin(t, moved(plain(fork(0, hold(8), fork(5, two, some))), y), y.to(1, 5), fork(5, hold(0, 1), some))
		// And 2 and 3 for the first ones, 4 for the last.
		checkJoin(t, moved(plain(fork(7, fork(5, two, none), hold(8, 7))), y), y.to(4, 5), fork(5, two, hold(0, 7)))
		checkJoin(t, moved(plain(fork(7, fork(5, two, some), hold(8))), y), y.to(4, 5), fork(5, two, hold(0, 5, 6)))
	}
}

// rolls is numbers below n that follow from one another.
func rolls() func(n int) int {
	x := uint64(1)
	return func(n int) int {
		x = x*6364136223846793005 + 1442695040888963407
		return int(x>>33) % n
	}
}

// checkGoesOn is what holds of each tree that is told: it may be, it is plain,
// it has so many leaves and these pairs.
func checkGoesOn(t *testing.T, u api.Tree, leaves int, all []api.Pair) {
	t.Helper()
	if p, ok := tree.Plain(u); !ok || !alike(p, u) {
		t.Fatalf("%v may not be, or is not plain", u)
	}
	if n := len(tree.Leaves(u)); n != leaves || len(u.Nodes) != 2*leaves-1 {
		t.Fatalf("%d leaves, %d nodes, not %d leaves", n, len(u.Nodes), leaves)
	}
	if l := tree.All(u); !slices.Equal(l, all) {
		t.Fatalf("the pairs are %v, not %v", l, all)
	}
}

// P15.2, P15.4: leaves are joined, any one after any other, till one is left.
func TestJoinedAll(t *testing.T) {
	roll := rolls()
	for _, s := range shapes {
		for n := 1; n < 90; n += 11 {
			p := grown(0, n, 0, s.pick)
			u, all := moved(plain(p), layouts[n%3]), tree.All(plain(p))
			for left := n; left > 0; left-- {
				l := tree.Leaves(u)
				v, ok := Join(u, l[roll(len(l))])
				if !ok {
					t.Fatalf("%s: %d leaves can't be joined", s.name, len(l))
				}
				checkGoesOn(t, v, left, all)
				u = v
			}
			if !alike(u, api.Tree{Nodes: []api.Node{{Pairs: all}}}) {
				t.Fatalf("%s: %v is left", s.name, u)
			}
			if _, ok := Join(u, 0); ok {
				t.Fatalf("%s: one leaf is joined", s.name)
			}
		}
	}
}

// P15.1, P15.4: leaves are split, any one after any other, till each has one pair.
func TestSplitAll(t *testing.T) {
	roll := rolls()
	for _, n := range []int{2, 3, 4, 5, 31, 64, 100} {
		var all []api.Pair
		for i := range n {
			all = append(all, api.Pair{Key: 3*i - 40, Val: i})
		}
		u := tree.One(all)
		for leaves := 2; leaves <= n; leaves++ {
			can := slices.DeleteFunc(tree.Leaves(u), func(at int) bool { return len(u.Nodes[at].Pairs) < 2 })
			v, ok := Split(u, can[roll(len(can))])
			if !ok {
				t.Fatalf("%v can't be split", u)
			}
			checkGoesOn(t, v, leaves, all)
			u = v
		}
		for _, at := range tree.Leaves(u) {
			if _, ok := Split(u, at); ok {
				t.Fatalf("one pair is split: %v", u)
			}
		}
	}
}

// P15.1, P15.2: what is split and joined again, from either half, is the same but
// for the leaf's stat, which is 0 then.
func TestSplitAndJoined(t *testing.T) {
	for n := range 6 {
		for _, p := range every(0, n) {
			for _, leaf := range p.leaves() {
				if len(leaf.node.Pairs) < 2 {
					continue
				}
				checkSplitAndJoined(t, p, leaf)
			}
		}
	}
}

// checkSplitAndJoined is that of one leaf of these parts.
func checkSplitAndJoined(t *testing.T, p, leaf *part) {
	t.Helper()
	was := leaf.node.Stat
	defer func() { leaf.node.Stat = was }()
	leaf.node.Stat = 0
	want, places := laid(p)
	for _, y := range layouts {
		for half := 1; half < 3; half++ {
			u, ok := Split(moved(want, y), y.to(places[leaf], len(want.Nodes)))
			// Where the leaf was stands the route, and right behind it its leaves.
			v, too := Join(u, places[leaf]+half)
			if !ok || !too || !alike(v, want) {
				t.Fatalf("%v, %v, %v, not %v", v, ok, too, want)
			}
		}
	}
}

// step is one of the calls on a leaf, and what it did: nothing, if there is no
// such thing to be done.
func step(x api.Tree, at, call int) (api.Tree, int) {
	switch call {
	case 0:
		if u, ok := Split(x, at); ok {
			return u, api.Split
		}
	case 1:
		if u, ok := Join(x, at); ok {
			return u, api.Join
		}
	default:
		return Bend(x, api.Policy{High: 3, Low: -3}, at)
	}
	u, _ := tree.Plain(x)
	return u, api.Leave
}

// P15.4: Split, Join and Bend in whatever order, of trees laid out in many ways:
// all pairs are as they were, and what was told stays as it was told.
func TestAsTheyWere(t *testing.T) {
	roll := rolls()
	for i := range 60 {
		p := grown(0, roll(12), 0, shapes[i%len(shapes)].pick)
		u, all := moved(plain(p), layouts[i%3]), tree.All(plain(p))
		leaves := len(p.leaves())
		var told, wants []api.Tree
		for range 60 {
			at := tree.Leaves(u)[roll(leaves)]
			u.Nodes[at].Stat = 4*roll(3) - 4
			was := cloned(u)
			v, what := step(u, at, roll(3))
			leaves += map[int]int{api.Split: 1, api.Join: -1}[what]
			checkGoesOn(t, v, leaves, all)
			if !alike(u, was) {
				t.Fatalf("what was handed in is %v now, not %v", u, was)
			}
			told, wants = append(told, v), append(wants, cloned(v))
			u = moved(v, layouts[roll(3)])
		}
		for j := range told {
			if !alike(told[j], wants[j]) {
				t.Fatalf("%d is %v now, not %v", j, told[j], wants[j])
			}
		}
	}
}

// P15.3: policies at and beyond their bounds, and stats at, next to and beyond
// what these say, of either of two leaves that can be split, and joined.
func TestBendPolicies(t *testing.T) {
	for _, r := range []struct {
		p         api.Policy
		high, low int // as they count
	}{
		{api.Policy{}, 1, 0},
		{api.Policy{High: 1, Low: -1, Cont: 2, Uncont: -1, Multi: 3}, 1, -1},
		{api.Policy{High: 1}, 1, 0},
		{api.Policy{High: 2, Low: -5}, 2, -5},
		{api.Policy{High: -1, Low: 1}, 1, 0},
		{api.Policy{High: low, Low: high}, 1, 0},
		{api.Policy{High: -5, Low: -3}, 1, -3},
		{api.Policy{High: 7, Low: 3}, 7, 0},
		{api.Policy{High: maxPolicy, Low: -maxPolicy}, maxPolicy, -maxPolicy},
		{api.Policy{High: maxPolicy + 1, Low: -maxPolicy - 1}, maxPolicy, -maxPolicy},
		{api.Policy{High: maxStat, Low: -maxStat}, maxPolicy, -maxPolicy},
		{api.Policy{High: high, Low: low, Cont: high, Uncont: low, Multi: low}, maxPolicy, -maxPolicy},
		{api.Policy{High: 3, Low: -3, Cont: high, Uncont: high, Multi: high}, 3, -3},
	} {
		for _, stat := range []int{-maxStat, r.low - 1, r.low, r.low + 1, 0, r.high - 1, r.high, r.high + 1, maxStat} {
			checkBendTwo(t, r.p, stat, r.high, r.low)
		}
	}
}

// checkBendTwo is Bend of either of two leaves, whose stat counts as between high
// and low, or beyond. The other leaf's stat has no part in it.
func checkBendTwo(t *testing.T, pol api.Policy, stat, high, low int) {
	t.Helper()
	const other = 77
	p := fork(5, hold(other, 1, 2), hold(other, 5, 6))
	for i, leaf := range p.leaves() {
		leaf.node.Stat = stat
		want, what := p, api.Leave
		switch {
		case stat > high:
			want, what = splitOf(p, leaf), api.Split
		case stat < low:
			want, what = joinOf(p, leaf), api.Join
		}
		for _, y := range layouts {
			checkBend(t, moved(plain(p), y), pol, y.to(1+i, 3), want, what)
		}
		leaf.node.Stat = other
	}
}

// P15.3: where what the stat says can't be done, nothing is: a leaf of fewer than
// two pairs is not joined for it, and one without a neighbour is not split.
func TestBendNot(t *testing.T) {
	pol := api.Policy{High: 1, Low: -1}
	for _, l := range [][]api.Pair{nil, {}, pairs(4), pairs(4, 6), pairs(1, 2, 3)} {
		checkBend(t, plain(of(-2, l)), pol, 0, of(-2, l), api.Leave)
		checkBend(t, plain(of(-1, l)), pol, 0, of(-1, l), api.Leave)
		checkBend(t, plain(of(1, l)), pol, 0, of(1, l), api.Leave)
		if len(l) < 2 {
			checkBend(t, plain(of(2, l)), pol, 0, of(2, l), api.Leave)
		}
	}
	for _, p := range []*part{fork(5, hold(2), hold(3, 5, 6)), fork(5, hold(2, 1), hold(-2, 5, 6))} {
		for _, y := range layouts {
			checkBend(t, moved(plain(p), y), pol, y.to(1, 3), p, api.Leave)
		}
	}
	most := grown(0, 999, 0, shapes[4].pick)
	leaf := most.leaves()[4]
	leaf.node.Stat = 2
	u, places := laid(most)
	checkBend(t, u, pol, places[leaf], most, api.Leave)
	z := layouts[1]
	checkBend(t, moved(u, z), pol, z.to(places[leaf], len(u.Nodes)), most, api.Leave)
}

// All calls on a place that is a route's, or no place, of trees that may be.
func TestNoLeaf(t *testing.T) {
	for _, s := range shapes {
		for n := range 7 {
			p := grown(0, n, 0, s.pick)
			u, places := laid(p)
			for _, y := range layouts {
				x := moved(u, y)
				for q, at := range places {
					if q.node.Route {
						checkNot(t, "a route", x, y.to(at, len(x.Nodes)))
					}
				}
				for _, at := range []int{low, low + 1, -1 << 32, -len(x.Nodes), -2, -1, len(x.Nodes), len(x.Nodes) + 1, len(x.Nodes) + 2, 1 << 32, high - 1, high} {
					checkNot(t, "no place", x, at)
				}
			}
		}
	}
}

// five is a route at 5; left: a route at 3: 1 2, and 3 4; right: 5 9.
func five() api.Tree {
	return plain(fork(5, fork(3, hold(7, 1, 2), hold(0, 3, 4)), hold(-1, 5, 9)))
}

// All calls on trees that may not be.
func TestNoTree(t *testing.T) {
	checkNoTree(t, "nothing", api.Tree{})
	checkNoTree(t, "no nodes", api.Tree{Root: 1, Nodes: []api.Node{}})
	for _, root := range []int{low, -1, 1, 2, 3, 4, 5, 6, high} {
		x := five()
		x.Root = root
		checkNoTree(t, "Root elsewhere", x)
		checkNoTree(t, "Root of one leaf elsewhere", api.Tree{Root: root, Nodes: []api.Node{{Pairs: pairs(1, 2)}}})
	}
	for at := range five().Nodes {
		for _, change := range []func(n *api.Node){
			func(n *api.Node) { n.Key = -3 }, func(n *api.Node) { n.Left = 5 }, func(n *api.Node) { n.Right = -1 },
			func(n *api.Node) { n.Left, n.Right = 0, 1 }, func(n *api.Node) { n.Route = !n.Route },
			func(n *api.Node) { n.Pairs = pairs(1, 3, 5) }, func(n *api.Node) { n.Pairs = pairs(2, 1) }, func(n *api.Node) { n.Pairs = pairs(4, 4) },
			func(n *api.Node) { n.Stat = maxStat + 1 }, func(n *api.Node) { n.Stat = -maxStat - 1 }, func(n *api.Node) { n.Stat = high },
		} {
			x := five()
			change(&x.Nodes[at])
			checkNoTree(t, "a node otherwise", x)
		}
	}
	x := five()
	x.Nodes = append(x.Nodes, api.Node{Pairs: pairs(7, 8)})
	checkNoTree(t, "a leaf that no route leads to", x)
	x.Nodes = append(x.Nodes, api.Node{Route: true, Key: 7, Left: 5, Right: 7}, api.Node{})
	checkNoTree(t, "two trees", x)
	x.Nodes[6].Left = 6
	checkNoTree(t, "a ring aside", x)
	checkNoTree(t, "a route of itself", api.Tree{Nodes: []api.Node{{Route: true, Key: 5}}})
	checkNoTree(t, "one leaf twice", api.Tree{Nodes: []api.Node{{Route: true, Key: 5, Left: 1, Right: 1}, {}}})
	more := plain(grown(0, 1000, 0, shapes[4].pick))
	checkNoTree(t, "too many nodes", more)
	checkNoTree(t, "too many nodes", moved(more, layouts[1]))
}

// R2: leaves whose lists lie right behind one another in one array, or are empty
// pieces of one.
func TestListsOfOneArray(t *testing.T) {
	back := pairs(1, 2, 5, 6, 8, 9)
	was := slices.Clone(back)
	x := api.Tree{Nodes: []api.Node{
		{Route: true, Key: 5, Left: 1, Right: 2, Pairs: back[:0]}, {Pairs: back[:2]},
		{Route: true, Key: 8, Left: 3, Right: 4, Pairs: back[3:3]}, {Pairs: back[2:4]}, {Pairs: back[4:5]},
	}}
	empty := api.Tree{Nodes: []api.Node{{Route: true, Key: 5, Left: 1, Right: 2, Pairs: back[:0]}, {Pairs: back[:0]}, {Pairs: back[:0]}}}
	var told []api.Tree
	for _, at := range []int{1, 3, 4} {
		u, _ := Split(x, at)
		v, _ := Join(x, at)
		w, _ := Bend(x, api.Policy{High: 1}, at)
		told = append(told, u, v, w)
	}
	v, _ := Join(empty, 1)
	w, _ := Bend(empty, api.Policy{High: 1}, 2)
	told = append(told, v, w)
	for _, u := range told {
		for i := range u.Nodes {
			u.Nodes[i].Pairs = append(u.Nodes[i].Pairs, api.Pair{Key: i})
		}
		for i, n := range u.Nodes {
			if n.Pairs[len(n.Pairs)-1].Key != i {
				t.Errorf("lists share memory: %v", u)
			}
			spoil(n.Pairs)
		}
		if !slices.Equal(back, was) {
			t.Fatalf("what was handed in is %v now", back)
		}
	}
}

// The chapter's example: Split of 1 2 3 is route 2: 1, and 2 3.
func TestExample(t *testing.T) {
	u, ok := Split(tree.One(pairs(1, 2, 3)), 0)
	want := api.Tree{Nodes: []api.Node{{Route: true, Key: 2, Left: 1, Right: 2}, {Pairs: pairs(1)}, {Pairs: pairs(2, 3)}}}
	if !ok || !alike(u, want) {
		t.Errorf("%v, %v", u, ok)
	}
}

// The numbers that api gives are the document's.
func TestNumbers(t *testing.T) {
	if api.MaxStat != maxStat || api.MaxPolicy != maxPolicy || api.Leave != 0 || api.Split != 1 || api.Join != 2 {
		t.Errorf("%d, %d, %d, %d, %d", api.MaxStat, api.MaxPolicy, api.Leave, api.Split, api.Join)
	}
}
