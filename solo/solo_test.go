package solo

import (
	"math"
	"slices"
	"testing"

	"osier/adapt"
	"osier/api"
	"osier/leaf"
	"osier/model"
	"osier/policy"
	"osier/stat"
	"osier/tree"
)

// Kinds, by the document's order.
const (
	oPut   = 1
	oAdd   = 2
	oCut   = 3
	oGet   = 4
	oRange = 5
	oCount = 6
	oMin   = 7
	oMax   = 8
)

// The ends of int, and the bounds of stats, policies and trees, by the document.
const (
	low       = math.MinInt
	high      = math.MaxInt
	maxStat   = 1000000
	maxPolicy = 100000
)

// Operations, by hand. What an operation does not ask for stands in it all the
// same, which would tell on who heeds it.
func put(key, val int) api.Op  { return api.Op{Kind: oPut, Key: key, Hi: -key, Val: val} }
func add(key, val int) api.Op  { return api.Op{Kind: oAdd, Key: key, Hi: high, Val: val} }
func cut(key int) api.Op       { return api.Op{Kind: oCut, Key: key, Hi: high, Val: 666} }
func get(key int) api.Op       { return api.Op{Kind: oGet, Key: key, Hi: high, Val: 666} }
func within(lo, hi int) api.Op { return api.Op{Kind: oRange, Key: lo, Hi: hi, Val: 666} }
func count(lo, hi int) api.Op  { return api.Op{Kind: oCount, Key: lo, Hi: hi, Val: 666} }
func least() api.Op            { return api.Op{Kind: oMin, Key: low, Hi: high, Val: 666} }
func most() api.Op             { return api.Op{Kind: oMax, Key: low, Hi: high, Val: 666} }

// Answers, by hand.
func was(key, val int) api.Ans  { return api.Ans{Ok: true, Pair: api.Pair{Key: key, Val: val}} }
func all(l ...api.Pair) api.Ans { return api.Ans{N: len(l), Pairs: l} }
func many(n int) api.Ans        { return api.Ans{N: n} }

var (
	none  = api.Ans{}
	wrong = api.Ans{Err: 1}
)

// noKinds is numbers of no operation: one below, one above, the ends of int, and
// numbers whose lower 8, 16, 32 bits alone are one's.
var noKinds = []int{
	0, -1, -2, -5, -8, 9, 10, 77, 1<<8 + 1, 1<<16 + 2, 1<<32 + 1, 1<<32 + 5, -1<<32 + 1, -1<<32 + 8,
	low, low + 1, low + 5, high - 1, high,
}

// pairs is pairs of these keys, whose values are ten times as much and one more.
func pairs(keys ...int) []api.Pair {
	var l []api.Pair
	for _, k := range keys {
		l = append(l, api.Pair{Key: k, Val: k*10 + 1})
	}
	return l
}

// of is the tree of one leaf, of that stat, with these pairs.
func of(stat int, l []api.Pair) api.Tree {
	return api.Tree{Nodes: []api.Node{{Pairs: l, Stat: stat}}}
}

// hold is the tree of one leaf, of that stat, with pairs of these keys.
func hold(stat int, keys ...int) api.Tree {
	return of(stat, pairs(keys...))
}

// fork is the plain tree of a route, and of two plain trees left and right of it.
func fork(key int, left, right api.Tree) api.Tree {
	nodes := []api.Node{{Route: true, Key: key, Left: 1, Right: 1 + len(left.Nodes)}}
	for _, side := range []api.Tree{left, right} {
		by := len(nodes)
		for _, n := range side.Nodes {
			if n.Route {
				n.Left, n.Right = n.Left+by, n.Right+by
			}
			nodes = append(nodes, n)
		}
	}
	return api.Tree{Nodes: nodes}
}

// keyed is what each key has: a map without the packages.
type keyed map[int]int

// keyedOf is what each key of these pairs has.
func keyedOf(l []api.Pair) keyed {
	k := keyed{}
	for _, p := range l {
		k[p.Key] = p.Val
	}
	return k
}

// pairs is the pairs by key, from lo to hi.
func (k keyed) pairs(lo, hi int) []api.Pair {
	var keys []int
	for key := range k {
		if lo <= key && key <= hi {
			keys = append(keys, key)
		}
	}
	slices.Sort(keys)
	var l []api.Pair
	for _, key := range keys {
		l = append(l, api.Pair{Key: key, Val: k[key]})
	}
	return l
}

// do does the operation, by the document's words (13, 16).
func (k keyed) do(op api.Op) api.Ans {
	l, in := k.pairs(low, high), k.pairs(op.Key, op.Hi)
	val, there := k[op.Key]
	switch {
	case op.Kind < oPut || op.Kind > oMax:
		return wrong
	case op.Kind == oRange:
		return all(in...)
	case op.Kind == oCount:
		return many(len(in))
	case op.Kind >= oMin && len(l) == 0:
		return none
	case op.Kind == oMin:
		return was(l[0].Key, l[0].Val)
	case op.Kind == oMax:
		return was(l[len(l)-1].Key, l[len(l)-1].Val)
	case op.Kind == oPut || op.Kind == oAdd && !there:
		k[op.Key] = op.Val
	case op.Kind == oCut:
		delete(k, op.Key)
	}
	if !there {
		return none
	}
	return was(op.Key, val)
}

// leafOf is which leaf is that of the key, counted from the left: as many routes
// are ahead of it as have Keys that are not above key.
func leafOf(x api.Tree, key int) int {
	ahead := 0
	for _, n := range x.Nodes {
		if n.Route && n.Key <= key {
			ahead++
		}
	}
	return ahead
}

// touchedOf is the places of the leaves that the operation touches, by the
// document's words.
func touchedOf(x api.Tree, op api.Op) []int {
	first, leaves := leafOf(x, op.Key), tree.Leaves(x)
	switch {
	case oPut <= op.Kind && op.Kind <= oGet:
		return leaves[first : first+1]
	case (op.Kind == oRange || op.Kind == oCount) && op.Key <= op.Hi:
		return leaves[first : leafOf(x, op.Hi)+1]
	}
	return nil
}

// doneOf is the tree after the operation, by the document's words.
func doneOf(x api.Tree, pol api.Policy, op api.Op) api.Tree {
	x, _ = tree.Plain(x)
	at := touchedOf(x, op)
	switch {
	case len(at) > 0 && op.Kind <= oCut:
		n := &x.Nodes[at[0]]
		k := keyedOf(n.Pairs)
		k.do(op)
		n.Pairs, n.Stat = k.pairs(low, high), stat.Next(pol, n.Stat, api.Uncontended)
	case len(at) > 1:
		for _, place := range at {
			n := &x.Nodes[place]
			n.Stat = stat.Next(pol, n.Stat, api.Several)
		}
	default:
		return x
	}
	x, _ = adapt.Bend(x, pol, at[0])
	return x
}

// layout is where the node of a plain place stands, of so many.
type layout func(at, nodes int) int

// layouts is the plain one, that one backwards, and one that strews the nodes. In
// each no two places are the same, as there is always an odd number of nodes.
var layouts = []layout{
	func(at, _ int) int { return at },
	func(at, nodes int) int { return nodes - 1 - at },
	func(at, nodes int) int { return (2*at + nodes/3) % nodes },
}

// moved is the same tree with its nodes at the layout's places.
func moved(t api.Tree, to layout) api.Tree {
	n := len(t.Nodes)
	u := api.Tree{Root: to(t.Root, n), Nodes: make([]api.Node, n)}
	for i, m := range t.Nodes {
		if m.Route {
			m.Left, m.Right = to(m.Left, n), to(m.Right, n)
		}
		m.Pairs = slices.Clone(m.Pairs)
		u.Nodes[to(i, n)] = m
	}
	return u
}

// cloned is the same tree in memory of its own.
func cloned(t api.Tree) api.Tree {
	u := api.Tree{Root: t.Root, Nodes: slices.Clone(t.Nodes)}
	for i := range u.Nodes {
		u.Nodes[i].Pairs = slices.Clone(u.Nodes[i].Pairs)
	}
	return u
}

// alikeNodes, alike, alikeAns and alikeAll hold things against each other, place
// by place, without the packages.
func alikeNodes(a, b []api.Node) bool {
	return slices.EqualFunc(a, b, func(m, n api.Node) bool {
		return m.Route == n.Route && m.Key == n.Key && m.Left == n.Left && m.Right == n.Right && m.Stat == n.Stat && slices.Equal(m.Pairs, n.Pairs)
	})
}

func alike(t, u api.Tree) bool {
	return t.Root == u.Root && alikeNodes(t.Nodes, u.Nodes)
}

func alikeAns(a, b api.Ans) bool {
	return a.Err == b.Err && a.Ok == b.Ok && a.Pair == b.Pair && a.N == b.N && slices.Equal(a.Pairs, b.Pairs)
}

func alikeAll(a, b []api.Ans) bool { return slices.EqualFunc(a, b, alikeAns) }

// guarded is the tree with more behind each of its lists, and a check that all of
// it is as it was. All pairs lie behind one another in one array, so that who
// adds to a list writes over what is no part of it.
func guarded(t api.Tree) (api.Tree, func(*testing.T)) {
	var back []api.Pair
	for _, n := range t.Nodes {
		back = append(append(back, n.Pairs...), api.Pair{Key: 666, Val: 666})
	}
	nodes := slices.Clone(t.Nodes)
	from := 0
	for i, n := range nodes {
		to := from + len(n.Pairs)
		nodes[i].Pairs = back[from:to]
		from = to + 1
	}
	nodes = append(nodes, api.Node{Key: 666, Stat: 666}, api.Node{Route: true, Key: 666, Left: 1, Right: 2}, api.Node{})
	wasNodes, wasBack := cloned(api.Tree{Nodes: nodes}).Nodes, slices.Clone(back)
	g := api.Tree{Root: t.Root, Nodes: nodes[:len(t.Nodes)]}
	return g, func(x *testing.T) {
		x.Helper()
		if !alikeNodes(nodes, wasNodes) || !slices.Equal(back, wasBack) {
			x.Fatalf("what was handed in is %v, %v now", nodes, back)
		}
	}
}

// spoil writes over all of a list of pairs, and over what its capacity holds.
func spoil(l []api.Pair) {
	l = l[:cap(l)]
	for i := range l {
		l[i] = api.Pair{Key: 777, Val: 777}
	}
}

// spoilTree writes over all of a tree, one list after the other, and checks that
// each one's pairs are its own.
func spoilTree(t *testing.T, u api.Tree) {
	t.Helper()
	was := cloned(u)
	for i := range u.Nodes {
		spoil(u.Nodes[i].Pairs)
		was.Nodes[i].Pairs = make([]api.Pair, len(was.Nodes[i].Pairs))
		spoil(was.Nodes[i].Pairs)
		if len(u.Nodes) < 50 && !alike(u, was) {
			t.Fatalf("the pairs of node %d are those of another one too: %v", i, u)
		}
	}
	nodes := u.Nodes[:cap(u.Nodes)]
	for i := range nodes {
		nodes[i] = api.Node{Key: 777, Left: 777}
	}
}

// checkRun is Run of these operations: what it tells, that this is new memory, and
// that what was handed in is neither changed nor kept.
func checkRun(t *testing.T, x api.Tree, p api.Policy, ops []api.Op, want api.Tree, told []api.Ans) {
	t.Helper()
	g, same := guarded(x)
	back := slices.Concat(ops, []api.Op{put(1, 666), cut(2)})
	handed := back[:len(ops)]
	for range 2 {
		u, a := Run(g, p, handed...)
		v, b := Run(g, p, handed...)
		if !alike(u, want) || !alikeAll(a, told) {
			t.Fatalf("Run of %+v under %+v in %v: %v, %+v, not %v, %+v", ops, p, x, u, a, want, told)
		}
		for i := range a {
			spoil(a[i].Pairs)
			if !alikeAll(a[i+1:], told[i+1:]) {
				t.Fatalf("Run of %+v in %v: answer %d shares memory with others", ops, x, i)
			}
		}
		if !alike(u, want) {
			t.Fatalf("Run of %+v in %v: the answers share memory with the tree: %v", ops, x, u)
		}
		spoilTree(t, u)
		if !alike(v, want) || !alikeAll(b, told) {
			t.Fatalf("Run of %+v in %v: two calls share memory: %v, %+v", ops, x, v, b)
		}
		spoilTree(t, v)
		if !alikeAll(b, told) {
			t.Fatalf("Run of %+v in %v: the tree shares memory with the answers: %+v", ops, x, b)
		}
		same(t)
		if !slices.Equal(back, slices.Concat(ops, []api.Op{put(1, 666), cut(2)})) {
			t.Fatalf("Run of %+v: what was handed in is %+v now", ops, back)
		}
	}
	u, a := Run(g, p, handed...)
	for i := range g.Nodes {
		spoil(slices.Clip(g.Nodes[i].Pairs))
		g.Nodes[i] = api.Node{Key: 777}
	}
	clear(back)
	if !alike(u, want) || !alikeAll(a, told) {
		t.Fatalf("Run of %+v: %v, %+v is kept of what was handed in", ops, u, a)
	}
}

// checkDo is Do of one operation, and Run of that one alone.
func checkDo(t *testing.T, x api.Tree, p api.Policy, op api.Op, want api.Tree, told api.Ans) {
	t.Helper()
	g, same := guarded(x)
	u, a := Do(g, p, op)
	v, b := Do(g, p, op)
	if !alike(u, want) || !alikeAns(a, told) {
		t.Fatalf("Do of %+v under %+v in %v: %v, %+v, not %v, %+v", op, p, x, u, a, want, told)
	}
	spoil(a.Pairs)
	if !alike(u, want) {
		t.Fatalf("Do of %+v in %v: the answer shares memory with the tree: %v", op, x, u)
	}
	spoilTree(t, u)
	if !alike(v, want) || !alikeAns(b, told) {
		t.Fatalf("Do of %+v in %v: two calls share memory: %v, %+v", op, x, v, b)
	}
	spoilTree(t, v)
	if !alikeAns(b, told) {
		t.Fatalf("Do of %+v in %v: the tree shares memory with the answer: %+v", op, x, b)
	}
	same(t)
	checkRun(t, x, p, []api.Op{op}, want, []api.Ans{told})
}

// checkBoth is Do of one operation on this tree as it is laid out, held against
// the document's words.
func checkBoth(t *testing.T, x api.Tree, y layout, pol api.Policy, op api.Op) {
	t.Helper()
	told := keyedOf(tree.All(x)).do(op)
	checkDo(t, moved(x, y), pol, op, doneOf(x, pol, op), told)
}

// checkTouched is Touched, and that what it tells is new memory.
func checkTouched(t *testing.T, x api.Tree, op api.Op, want []int) {
	t.Helper()
	g, same := guarded(x)
	for range 2 {
		a, b := Touched(g, op), Touched(g, op)
		if !slices.Equal(a, want) {
			t.Fatalf("Touched of %+v in %v: %v, not %v", op, x, a, want)
		}
		a = a[:cap(a)]
		for i := range a {
			a[i] = 777
		}
		if !slices.Equal(b, want) {
			t.Fatalf("Touched of %+v in %v: two answers share memory: %v", op, x, b)
		}
		same(t)
	}
}

// grown is a tree with routes at ten times each of from .. to - 1, of which pick
// says the topmost one, and leaves between them. Leaf i lies ahead of route i: it
// has none to four pairs, from the route ahead of it on to just below its own, and
// the stats differ.
func grown(from, to, deep int, pick func(from, to, deep int) int) api.Tree {
	if from == to {
		keys := []int{10*from - 10, 10*from - 1, 10*from - 4, 10*from - 9}[:from%5]
		slices.Sort(keys)
		return hold(from%7-3, keys...)
	}
	k := pick(from, to, deep)
	return fork(10*k, grown(from, k, deep+1, pick), grown(k+1, to, deep+1, pick))
}

// shapes is what may be the topmost of some routes.
var shapes = []func(from, to, deep int) int{
	func(_, to, _ int) int { return to - 1 },
	func(from, _, _ int) int { return from },
	func(from, to, deep int) int {
		if deep%2 == 0 {
			return from
		}
		return to - 1
	},
	func(from, to, _ int) int { return (from + to) / 2 },
	func(from, to, _ int) int { return (2*from + to) / 3 },
}

// every is all trees of so many routes, with leaves as grown has them.
func every(from, to int) []api.Tree {
	if from == to {
		return []api.Tree{grown(from, to, 0, nil)}
	}
	var all []api.Tree
	for k := from; k < to; k++ {
		for _, l := range every(from, k) {
			for _, r := range every(k+1, to) {
				all = append(all, fork(10*k, l, r))
			}
		}
	}
	return all
}

// few is all trees of none to four routes, and some of more.
func few() []api.Tree {
	var all []api.Tree
	for n := range 5 {
		all = append(all, every(0, n)...)
	}
	for _, s := range shapes {
		all = append(all, grown(0, 9, 0, s))
	}
	return all
}

// keysOf is keys that touch each leaf of what grown has with so many leaves: at
// each route, next to it, keys that are there and that are not, and the ends.
func keysOf(leaves int) []int {
	keys := []int{low, -11}
	for i := range leaves {
		keys = append(keys, 10*i-10, 10*i-9, 10*i-5, 10*i-1)
	}
	return append(keys, 10*leaves-10, high)
}

// rolls is numbers below n that follow from one another.
func rolls() func(n int) int {
	x := uint64(1)
	return func(n int) int {
		x = x*6364136223846793005 + 1442695040888963407
		return int(x>>33) % n
	}
}

// made is a route at 5; left: a route at 3: 1 2, and 3 4; right: 5 9.
func made() api.Tree {
	return fork(5, fork(3, hold(7, 1, 2), hold(0, 3, 4)), hold(-1, 5, 9))
}

// tough is a policy under which no leaf of made bends.
var tough = api.Policy{High: 100, Low: -100, Cont: 1000, Uncont: -1, Multi: 2}

// The numbers above are the document's.
func TestNumbers(t *testing.T) {
	for i, k := range []int{api.OPut, api.OAdd, api.OCut, api.OGet, api.ORange, api.OCount, api.OMin, api.OMax} {
		if k != i+1 {
			t.Errorf("kind %d is %d", i+1, k)
		}
	}
	if api.OK != 0 || api.ErrArg != 1 || api.MaxStat != maxStat || api.MaxPolicy != maxPolicy {
		t.Errorf("%d, %d, %d, %d", api.OK, api.ErrArg, api.MaxStat, api.MaxPolicy)
	}
}

// P17.1: Touched by hand: the plain places of made's leaves are 2 3 4, backwards
// they are 2 1 0.
func TestTouchedByHand(t *testing.T) {
	x, z := made(), moved(made(), layouts[1])
	for _, r := range []struct {
		op   api.Op
		want []int
	}{
		{put(1, 0), []int{2}}, {put(2, 0), []int{2}}, {put(3, 0), []int{3}}, {put(4, 0), []int{3}}, {put(5, 0), []int{4}}, {put(9, 0), []int{4}},
		{put(low, 0), []int{2}}, {put(high, 0), []int{4}}, {put(-1, 0), []int{2}}, {put(99, 0), []int{4}},
		{add(2, 0), []int{2}}, {add(3, 0), []int{3}}, {add(5, 0), []int{4}}, {add(low, 0), []int{2}}, {add(high, 0), []int{4}},
		{cut(2), []int{2}}, {cut(3), []int{3}}, {cut(5), []int{4}}, {cut(77), []int{4}}, {cut(low), []int{2}}, {cut(high), []int{4}},
		{get(2), []int{2}}, {get(3), []int{3}}, {get(5), []int{4}}, {get(77), []int{4}}, {get(low), []int{2}}, {get(high), []int{4}},
		{within(1, 2), []int{2}}, {within(1, 3), []int{2, 3}}, {within(1, 4), []int{2, 3}}, {within(1, 5), []int{2, 3, 4}}, {within(1, 9), []int{2, 3, 4}},
		{within(2, 2), []int{2}}, {within(2, 3), []int{2, 3}}, {within(3, 3), []int{3}}, {within(3, 4), []int{3}}, {within(3, 5), []int{3, 4}}, {within(4, 5), []int{3, 4}}, {within(4, 4), []int{3}}, {within(5, 5), []int{4}}, {within(5, 99), []int{4}},
		{within(2, 1), nil}, {within(3, 2), nil}, {within(5, 4), nil}, {within(9, 5), nil}, {within(high, low), nil}, {within(low+1, low), nil}, {within(high, high-1), nil},
		{within(low, high), []int{2, 3, 4}}, {within(low, low), []int{2}}, {within(high, high), []int{4}}, {within(low, 2), []int{2}}, {within(low, 3), []int{2, 3}}, {within(4, high), []int{3, 4}}, {within(5, high), []int{4}},
		{count(1, 2), []int{2}}, {count(2, 3), []int{2, 3}}, {count(3, 4), []int{3}}, {count(3, 5), []int{3, 4}}, {count(-9, 5), []int{2, 3, 4}}, {count(low, high), []int{2, 3, 4}}, {count(4, 3), nil}, {count(high, low), nil}, {count(low, low), []int{2}}, {count(high, high), []int{4}},
		{least(), nil}, {most(), nil}, {api.Op{Kind: oMin}, nil}, {api.Op{Kind: oMax, Key: 3, Hi: 3}, nil},
	} {
		checkTouched(t, x, r.op, r.want)
		var back []int
		for _, at := range r.want {
			back = append(back, 4-at)
		}
		checkTouched(t, z, r.op, back)
	}
}

// P17.1: one leaf, with pairs and with none: what touches a leaf touches that.
func TestTouchedOne(t *testing.T) {
	for _, l := range [][]api.Pair{nil, pairs(4), pairs(low/20, 0, high/20)} {
		x := tree.One(l)
		for _, key := range []int{low, -1, 0, 4, high} {
			for _, op := range []api.Op{put(key, 1), add(key, 1), cut(key), get(key), within(key, key), within(low, key), within(key, high), count(key, key), count(low, high)} {
				checkTouched(t, x, op, []int{0})
			}
			for _, op := range []api.Op{least(), most(), {Kind: oRange, Key: 1, Hi: 0}, {Kind: oCount, Key: high, Hi: low}, {Kind: 0, Key: key}, {Kind: 9, Key: key, Hi: key}} {
				checkTouched(t, x, op, nil)
			}
		}
	}
}

// P17.1: each kind of operation, with each key and each end, on each tree of few
// routes, laid out in many ways.
func TestTouchedEvery(t *testing.T) {
	for i, p := range few() {
		x := moved(p, layouts[i%3])
		keys := keysOf(len(tree.Leaves(p)))
		for kind := oPut - 1; kind <= oMax+1; kind++ {
			for _, key := range keys {
				for _, hi := range keys {
					op := api.Op{Kind: kind, Key: key, Hi: hi, Val: 5}
					if got, want := Touched(x, op), touchedOf(x, op); !slices.Equal(got, want) {
						t.Fatalf("Touched of %+v in %v: %v, not %v", op, x, got, want)
					}
				}
			}
		}
	}
}

// P17.1, P17.2: routes at the ends of int, and leaves that no key leads to.
func TestRoutesAtEnds(t *testing.T) {
	for _, p := range []api.Tree{
		fork(low, hold(1), hold(2, low/20, high/20)), fork(high, hold(3, low/20, 4), hold(-2)),
		fork(low, hold(1), fork(high, hold(2, 0, 4), hold(3))), fork(high, fork(low, hold(1), hold(2, 0, 4)), hold(3)),
		fork(low+1, hold(1), fork(high-1, hold(-2, 0, 4), hold(3))), fork(0, hold(3, -1), fork(1, hold(2, 0), hold(1, 1))),
	} {
		ends := []int{low, low + 1, low + 2, -1, 0, 1, high - 2, high - 1, high}
		for i, y := range layouts {
			x := moved(p, y)
			for kind := oPut; kind <= oMax; kind++ {
				for _, key := range ends {
					for _, hi := range ends {
						op := api.Op{Kind: kind, Key: key, Hi: hi, Val: 10*i - 7}
						checkTouched(t, x, op, touchedOf(x, op))
						checkBoth(t, p, y, policies[i], op)
					}
				}
			}
		}
	}
}

// policies is some under which leaves bend soon, or the other way round, or not
// at all; the last ones may not be.
var policies = []api.Policy{
	{High: 1, Low: -1, Cont: 2, Uncont: -1, Multi: 3}, {High: 1, Low: 0, Cont: -5, Uncont: 1, Multi: -3}, {High: 3, Low: -4, Cont: 7, Uncont: 2, Multi: 2},
	{High: 100000, Low: -100000}, {High: 1, Low: 0, Uncont: -5, Multi: -5}, {High: 1, Low: 0, Uncont: 5, Multi: 5},
	{}, {High: low, Low: high, Cont: low, Uncont: low, Multi: low}, {High: -3, Low: 4, Cont: 9, Uncont: 200000, Multi: 200000}, {High: high, Low: low, Cont: high, Uncont: high, Multi: -200000},
}

// P17.2: Do by hand on made: what it leaves, and what it tells, where no leaf
// bends.
func TestDoByHand(t *testing.T) {
	a, b, c := hold(7, 1, 2), hold(0, 3, 4), hold(-1, 5, 9)
	two := func(l ...api.Pair) []api.Pair { return l }
	for _, r := range []struct {
		op   api.Op
		want api.Tree
		told api.Ans
	}{
		// Updates: Stat goes up by one (less Uncont, which is -1).
		{put(4, 70), fork(5, fork(3, a, of(1, two(api.Pair{Key: 3, Val: 31}, api.Pair{Key: 4, Val: 70}))), c), was(4, 41)},
		{put(4, 41), fork(5, fork(3, a, hold(1, 3, 4)), c), was(4, 41)},
		{put(0, 1), fork(5, fork(3, hold(8, 0, 1, 2), b), c), none},
		{put(7, 71), fork(5, fork(3, a, b), hold(0, 5, 7, 9)), none},
		{add(4, 70), fork(5, fork(3, a, hold(1, 3, 4)), c), was(4, 41)},
		{add(-1, -9), fork(5, fork(3, hold(8, -1, 1, 2), b), c), none},
		{add(5, 70), fork(5, fork(3, a, b), hold(0, 5, 9)), was(5, 51)},
		{cut(3), fork(5, fork(3, a, hold(1, 4)), c), was(3, 31)},
		{cut(7), fork(5, fork(3, a, b), hold(0, 5, 9)), none},
		{cut(2), fork(5, fork(3, hold(8, 1), b), c), was(2, 21)},
		// What tells of one leaf, or of none, leaves all as it was.
		{get(9), made(), was(9, 91)}, {get(8), made(), none}, {get(1), made(), was(1, 11)}, {get(low), made(), none},
		{least(), made(), was(1, 11)}, {most(), made(), was(9, 91)},
		{within(3, 4), made(), all(pairs(3, 4)...)}, {within(1, 1), made(), all(pairs(1)...)}, {within(6, 8), made(), all()}, {within(4, 3), made(), all()}, {within(9, 1), made(), all()},
		{count(3, 4), made(), many(2)}, {count(5, 5), made(), many(1)}, {count(6, 8), made(), many(0)}, {count(5, 4), made(), many(0)}, {count(high, low), made(), many(0)},
		// Over more than one leaf each Stat goes down by two (Multi).
		{within(2, 3), fork(5, fork(3, hold(5, 1, 2), hold(-2, 3, 4)), c), all(pairs(2, 3)...)},
		{within(4, 5), fork(5, fork(3, a, hold(-2, 3, 4)), hold(-3, 5, 9)), all(pairs(4, 5)...)},
		{within(low, high), fork(5, fork(3, hold(5, 1, 2), hold(-2, 3, 4)), hold(-3, 5, 9)), all(pairs(1, 2, 3, 4, 5, 9)...)},
		{count(2, 77), fork(5, fork(3, hold(5, 1, 2), hold(-2, 3, 4)), hold(-3, 5, 9)), many(5)},
		{count(0, 3), fork(5, fork(3, hold(5, 1, 2), hold(-2, 3, 4)), c), many(3)},
		{count(4, 6), fork(5, fork(3, a, hold(-2, 3, 4)), hold(-3, 5, 9)), many(2)},
	} {
		for _, y := range layouts {
			checkDo(t, moved(made(), y), tough, r.op, r.want, r.told)
		}
	}
}

// P17.2: the tree that is left is plain, and the very nodes, by hand.
func TestDoPlain(t *testing.T) {
	x := moved(made(), layouts[1])
	u, a := Do(x, api.Policy{High: 7, Low: -1, Uncont: -1}, put(0, 1))
	want := api.Tree{Nodes: []api.Node{
		{Route: true, Key: 5, Left: 1, Right: 6}, {Route: true, Key: 3, Left: 2, Right: 5}, {Route: true, Key: 1, Left: 3, Right: 4},
		{Pairs: pairs(0)}, {Pairs: pairs(1, 2)}, {Pairs: pairs(3, 4)}, {Pairs: pairs(5, 9), Stat: -1},
	}}
	if !alike(u, want) || !alikeAns(a, none) {
		t.Errorf("%v, %+v", u, a)
	}
	u, a = Do(x, api.Policy{High: 100, Low: -1, Uncont: 2}, add(5, 1))
	want = api.Tree{Nodes: []api.Node{
		{Route: true, Key: 3, Left: 1, Right: 2}, {Pairs: pairs(1, 2), Stat: 7}, {Pairs: pairs(3, 4, 5, 9)},
	}}
	if !alike(u, want) || !alikeAns(a, was(5, 51)) {
		t.Errorf("%v, %+v", u, a)
	}
	for _, op := range []api.Op{get(3), least(), most(), within(1, 2), within(2, 1), count(3, 4), {Kind: 9}, {}} {
		if u, _ := Do(x, api.Policy{}, op); !alike(u, made()) {
			t.Errorf("%+v: %v", op, u)
		}
	}
}

// P17.2: each kind of operation, with keys in each leaf and each end, on each tree
// of few routes, laid out in many ways, under policies of all kinds.
func TestDoEvery(t *testing.T) {
	for i, p := range few() {
		keys := keysOf(len(tree.Leaves(p)))
		for j, pol := range policies {
			for k, key := range keys {
				y := layouts[(i+j+k)%3]
				for kind := oPut; kind <= oGet; kind++ {
					checkBoth(t, p, y, pol, api.Op{Kind: kind, Key: key, Hi: keys[j%len(keys)], Val: k - 9})
				}
			}
		}
	}
}

// P17.2: ranges, counts and what asks for the ends, as TestDoEvery.
func TestDoEveryRange(t *testing.T) {
	for i, p := range few() {
		keys := keysOf(len(tree.Leaves(p)))
		roll := rolls()
		for j, pol := range policies {
			for k := range 60 {
				y := layouts[(i+j+k)%3]
				lo, hi := keys[roll(len(keys))], keys[roll(len(keys))]
				if k < 50 {
					lo, hi = min(lo, hi), max(lo, hi)
				}
				checkBoth(t, p, y, pol, within(lo, hi))
				checkBoth(t, p, y, pol, count(lo, hi))
			}
			checkBoth(t, p, layouts[j%3], pol, least())
			checkBoth(t, p, layouts[j%3], pol, most())
		}
	}
}

// P17.2: an update's leaf bends by what its Stat is afterwards, and by the pairs
// that it has then: it is left, split or joined, or that can't be.
func TestUpdateBends(t *testing.T) {
	up := api.Policy{High: 2, Low: -2, Cont: -50, Uncont: -1, Multi: 50}
	down := api.Policy{High: 2, Low: -2, Cont: 50, Uncont: 1, Multi: -50}
	four, five := hold(9, 4), hold(9, 5)
	for _, r := range []struct {
		p    api.Tree
		pol  api.Policy
		op   api.Op
		want api.Tree
	}{
		// At High it is left, one above it is split.
		{hold(1, 1, 2), up, put(3, 31), hold(2, 1, 2, 3)}, {hold(2, 1, 2), up, put(3, 31), fork(2, hold(0, 1), hold(0, 2, 3))},
		{hold(3, 1, 2), down, put(3, 31), hold(2, 1, 2, 3)}, {hold(4, 1, 2), down, put(3, 31), fork(2, hold(0, 1), hold(0, 2, 3))},
		// The pair that is put counts among two, and the one that is cut does not.
		{hold(2, 1), up, put(3, 31), fork(3, hold(0, 1), hold(0, 3))}, {hold(2, 1), up, add(0, 1), fork(1, hold(0, 0), hold(0, 1))}, {hold(2), up, put(3, 31), hold(3, 3)},
		{hold(2, 1), up, add(1, 9), hold(3, 1)}, {hold(2, 1, 2), up, cut(2), hold(3, 1)}, {hold(2, 1, 2, 3), up, cut(1), fork(3, hold(0, 2), hold(0, 3))}, {hold(2, 1), up, cut(1), hold(3)},
		// What changes no pair presses all the same.
		{hold(2, 1, 2), up, add(1, 9), fork(2, hold(0, 1), hold(0, 2))}, {hold(2, 1, 2), up, cut(9), fork(2, hold(0, 1), hold(0, 2))}, {hold(2, 1, 2), up, put(2, 21), fork(2, hold(0, 1), hold(0, 2))},
		// At Low it is left, one below it is joined, to the left or to the right.
		{fork(5, hold(-1, 1), five), down, put(2, 21), fork(5, hold(-2, 1, 2), five)}, {fork(5, hold(-2, 1), five), down, put(2, 21), hold(0, 1, 2, 5)},
		{fork(5, four, hold(-2, 7)), down, cut(7), hold(0, 4)}, {fork(5, four, hold(-2)), down, cut(8), hold(0, 4)},
		{fork(5, hold(-4, 1), five), up, put(2, 21), hold(0, 1, 2, 5)}, {fork(5, hold(-3, 1), five), up, put(2, 21), fork(5, hold(-2, 1, 2), five)},
		// Without a neighbour it can't be joined.
		{hold(-2, 1), down, put(2, 21), hold(-3, 1, 2)}, {hold(-2), down, cut(2), hold(-3)},
		// The others' stats ask in vain.
		{fork(5, hold(0, 1), hold(99, 5, 6)), up, put(2, 21), fork(5, hold(1, 1, 2), hold(99, 5, 6))}, {fork(5, hold(-99, 1, 2), hold(0, 5, 6)), down, cut(6), fork(5, hold(-99, 1, 2), hold(-1, 5))},
	} {
		for _, y := range layouts {
			checkDo(t, moved(r.p, y), r.pol, r.op, r.want, keyedOf(tree.All(r.p)).do(r.op))
		}
	}
}

// P17.2: over more than one leaf each Stat changes, then the first one alone
// bends; over one leaf or none nothing changes, whatever the Stats ask for.
func TestRangeBends(t *testing.T) {
	down := api.Policy{High: 2, Low: -2, Cont: 50, Uncont: -50, Multi: 3}
	up := api.Policy{High: 2, Low: -2, Cont: -50, Uncont: 50, Multi: -3}
	three := func(a, b, c int) api.Tree { return fork(5, fork(3, hold(a, 1, 2), hold(b, 3, 4)), hold(c, 5, 9)) }
	other := func(a, b, c int) api.Tree { return fork(3, hold(a, 1, 2), fork(5, hold(b, 3, 4), hold(c, 5, 9))) }
	for _, r := range []struct {
		p      api.Tree
		pol    api.Policy
		lo, hi int
		want   api.Tree
	}{
		{three(1, 1, 1), down, 1, 9, three(-2, -2, -2)}, {three(0, 1, 1), down, 1, 9, fork(5, hold(0, 1, 2, 3, 4), hold(-2, 5, 9))},
		{three(1, 0, -9), down, 1, 9, three(-2, -3, -12)}, {three(9, 0, 0), down, 4, 5, fork(5, hold(0, 1, 2, 3, 4), hold(-3, 5, 9))},
		{other(9, 0, 0), down, 4, 5, fork(3, hold(9, 1, 2), hold(0, 3, 4, 5, 9))}, {other(0, 7, 9), down, 2, 3, fork(5, hold(0, 1, 2, 3, 4), hold(9, 5, 9))},
		{other(0, 7, 9), down, 2, 5, fork(5, hold(0, 1, 2, 3, 4), hold(6, 5, 9))},
		{three(-1, -1, -1), up, 1, 9, three(2, 2, 2)}, {three(0, 0, 0), up, 1, 9, fork(5, fork(3, fork(2, hold(0, 1), hold(0, 2)), hold(3, 3, 4)), hold(3, 5, 9))},
		{three(-9, 0, 0), up, 4, 5, fork(5, fork(3, hold(-9, 1, 2), fork(4, hold(0, 3), hold(0, 4))), hold(3, 5, 9))}, {three(-1, 9, 9), up, 2, 3, three(2, 12, 9)},
		// The first one can't be split, so none is.
		{fork(5, hold(0, 1), hold(9, 5, 6)), up, 1, 5, fork(5, hold(3, 1), hold(12, 5, 6))},
		// One leaf or none.
		{three(-50, 50, -50), down, 3, 4, three(-50, 50, -50)}, {three(-50, 50, -50), up, 1, 2, three(-50, 50, -50)}, {three(-50, 50, -50), down, 5, high, three(-50, 50, -50)},
		{three(-50, 50, -50), down, 9, 1, three(-50, 50, -50)}, {hold(50, 1, 2), down, low, high, hold(50, 1, 2)}, {hold(-50, 1, 2), up, low, high, hold(-50, 1, 2)},
	} {
		k := keyedOf(tree.All(r.p))
		for _, y := range layouts {
			checkDo(t, moved(r.p, y), r.pol, within(r.lo, r.hi), r.want, k.do(within(r.lo, r.hi)))
			checkDo(t, moved(r.p, y), r.pol, count(r.lo, r.hi), r.want, k.do(count(r.lo, r.hi)))
		}
	}
}

// P17.2: what only reads one leaf or none turns no Stat and bends nothing, though
// each Stat asks for it.
func TestReadsLeave(t *testing.T) {
	for _, stat := range []int{-maxStat, -2, 0, 2, maxStat} {
		for _, p := range []api.Tree{hold(stat, 1, 2), hold(stat), fork(5, hold(stat, 1, 2), hold(stat, 5, 6)), fork(5, hold(stat), hold(stat))} {
			k := keyedOf(tree.All(p))
			for _, pol := range policies {
				for _, op := range []api.Op{get(1), get(6), get(0), least(), most(), within(0, 4), count(5, 6), within(1, 0), count(high, low), {Kind: 9, Key: 1, Val: 1}} {
					checkDo(t, moved(p, layouts[1]), pol, op, p, k.do(op))
				}
			}
		}
	}
}

// P17.2: stats at their bounds are held there.
func TestHeld(t *testing.T) {
	up := api.Policy{High: maxPolicy, Low: -maxPolicy, Uncont: -maxPolicy, Multi: -maxPolicy}
	down := api.Policy{High: maxPolicy, Low: -maxPolicy, Uncont: maxPolicy, Multi: maxPolicy}
	for _, r := range []struct {
		pol        api.Policy
		stat, want int
	}{
		{up, maxStat, maxStat}, {up, maxStat - 1, maxStat}, {up, maxStat - maxPolicy, maxStat}, {up, maxStat - maxPolicy - 1, maxStat - 1}, {up, -maxStat, maxPolicy - maxStat},
		{down, -maxStat, -maxStat}, {down, 1 - maxStat, -maxStat}, {down, maxPolicy - maxStat, -maxStat}, {down, maxPolicy - maxStat + 1, 1 - maxStat}, {down, maxStat, maxStat - maxPolicy},
	} {
		checkDo(t, hold(r.stat), r.pol, cut(1), hold(r.want), none)
		checkDo(t, hold(r.stat), r.pol, add(1, 11), hold(r.want, 1), none)
		p := fork(5, hold(r.stat, 1), hold(r.stat, 5))
		want := fork(5, hold(r.want, 1), hold(r.want, 5))
		if r.want < -maxPolicy {
			want = hold(0, 1, 5)
		}
		checkDo(t, p, r.pol, count(1, 5), want, many(2))
		checkDo(t, fork(5, hold(0, 1), hold(r.stat, 5)), r.pol, within(1, 5), fork(5, hold(-r.pol.Multi, 1), hold(r.want, 5)), all(pairs(1, 5)...))
	}
}

// P17.2: policies that may not be count as their Clamp, each number by itself.
func TestPolicies(t *testing.T) {
	numbers := []int{low, -maxPolicy - 1, -maxPolicy, -3, -1, 0, 1, 2, maxPolicy, maxPolicy + 1, high}
	stats := []int{-maxStat, -maxPolicy, -4, -1, 0, 1, 3, maxPolicy, maxStat}
	for i, n := range numbers {
		for _, pol := range []api.Policy{{High: n, Low: -3, Uncont: -1, Multi: -1}, {High: 3, Low: n, Uncont: 1, Multi: 1}, {High: 3, Low: -3, Cont: n, Uncont: 1}, {High: 3, Low: -3, Uncont: n, Multi: 1}, {High: 3, Low: -3, Uncont: 1, Multi: n}, {High: n, Low: n, Cont: n, Uncont: n, Multi: n}} {
			for j, stat := range stats {
				p := fork(5, hold(stat, 1, 2), hold(-stat, 5, 6))
				for _, op := range []api.Op{put(1, 9), add(7, 71), cut(6), within(1, 6), count(2, 5), get(1), within(1, 2)} {
					y := layouts[(i+j)%3]
					checkBoth(t, p, y, pol, op)
					u, a := Do(moved(p, y), pol, op)
					v, b := Do(moved(p, y), policy.Clamp(pol), op)
					if !alike(u, v) || !alikeAns(a, b) {
						t.Fatalf("%+v under %+v: %v, %+v, but under its Clamp %v, %+v", op, pol, u, a, v, b)
					}
				}
			}
		}
	}
}

// P17.2: where there are as many nodes as there may be, a leaf that should be
// split stays, with its Stat; one node pair less, and it is split.
func TestMostNodes(t *testing.T) {
	up := api.Policy{High: 1, Low: -1, Uncont: -9, Multi: -9}
	down := api.Policy{High: 1, Low: -1, Uncont: 9, Multi: 9}
	for i, s := range shapes {
		for _, routes := range []int{998, 999} {
			p := grown(0, routes, 0, s)
			y := layouts[i%3]
			x := moved(p, y)
			for _, op := range []api.Op{put(13, 131), cut(9989), within(5011, 5020), count(low, high)} {
				for _, pol := range []api.Policy{up, down, {High: 50}} {
					u, a := Do(x, pol, op)
					if want := doneOf(p, pol, op); !alike(u, want) || !alikeAns(a, keyedOf(tree.All(p)).do(op)) {
						t.Fatalf("%+v under %+v: %d nodes, not %d, or others", op, pol, len(u.Nodes), len(want.Nodes))
					}
				}
			}
		}
		u, _ := Do(moved(grown(0, 999, 0, s), layouts[i%3]), up, put(13, 131))
		v, _ := Do(moved(grown(0, 998, 0, s), layouts[i%3]), up, put(13, 131))
		if len(u.Nodes) != 1999 || len(v.Nodes) != 1999 || !tree.May(u) || !tree.May(v) {
			t.Errorf("shape %d: %d, %d", i, len(u.Nodes), len(v.Nodes))
		}
	}
}

// P17.1, P17.2: an operation that may not be touches nothing, tells ErrArg, and
// leaves t, plain.
func TestNoOp(t *testing.T) {
	for i, p := range []api.Tree{made(), hold(0), hold(50, 1, 2), fork(5, hold(-50, 1), hold(50, 5, 6)), grown(0, 7, 0, shapes[3])} {
		for j, kind := range noKinds {
			for _, key := range []int{low, 0, 3, 5, high} {
				op := api.Op{Kind: kind, Key: key, Hi: high, Val: 7}
				x := moved(p, layouts[(i+j)%3])
				checkTouched(t, x, op, nil)
				checkDo(t, x, policies[j%len(policies)], op, p, wrong)
			}
		}
	}
}

// checkNoTree is all calls on a tree that may not be: nothing, and ErrArg.
func checkNoTree(t *testing.T, name string, x api.Tree) {
	t.Helper()
	g, same := guarded(x)
	for kind := oPut - 1; kind <= oMax+1; kind++ {
		for _, key := range []int{low, 0, 2, 3, 5, high} {
			op := api.Op{Kind: kind, Key: key, Hi: 9, Val: 4}
			if l := Touched(g, op); len(l) != 0 {
				t.Errorf("%s: Touched of %+v: %v", name, op, l)
			}
			for _, pol := range []api.Policy{{}, policies[0], policies[7]} {
				if u, a := Do(g, pol, op); u.Root != 0 || len(u.Nodes) != 0 || !alikeAns(a, wrong) {
					t.Errorf("%s: Do of %+v: %v, %+v", name, op, u, a)
				}
				if u, all := Run(g, pol, op, put(2, 2), op); u.Root != 0 || len(u.Nodes) != 0 || len(all) != 0 {
					t.Errorf("%s: Run of %+v: %v, %+v", name, op, u, all)
				}
			}
		}
	}
	if u, all := Run(g, policies[0]); u.Root != 0 || len(u.Nodes) != 0 || len(all) != 0 {
		t.Errorf("%s: Run of none: %v, %+v", name, u, all)
	}
	same(t)
}

// P17.1, P17.2: trees that may not be.
func TestNoTree(t *testing.T) {
	checkNoTree(t, "nothing", api.Tree{})
	checkNoTree(t, "no nodes", api.Tree{Root: 1, Nodes: []api.Node{}})
	for _, root := range []int{low, -1, 1, 2, 3, 4, 5, 6, high} {
		x := made()
		x.Root = root
		checkNoTree(t, "Root elsewhere", x)
		checkNoTree(t, "Root of one leaf elsewhere", api.Tree{Root: root, Nodes: []api.Node{{Pairs: pairs(1, 2)}}})
	}
	for at := range made().Nodes {
		for _, change := range []func(n *api.Node){
			func(n *api.Node) { n.Key = -3 }, func(n *api.Node) { n.Left = 5 }, func(n *api.Node) { n.Right = -1 },
			func(n *api.Node) { n.Left, n.Right = 0, 1 }, func(n *api.Node) { n.Route = !n.Route },
			func(n *api.Node) { n.Pairs = pairs(1, 3, 5) }, func(n *api.Node) { n.Pairs = pairs(2, 1) }, func(n *api.Node) { n.Pairs = pairs(4, 4) },
			func(n *api.Node) { n.Stat = maxStat + 1 }, func(n *api.Node) { n.Stat = -maxStat - 1 }, func(n *api.Node) { n.Stat = high },
		} {
			x := made()
			change(&x.Nodes[at])
			checkNoTree(t, "a node otherwise", x)
		}
	}
	x := made()
	x.Nodes = append(x.Nodes, api.Node{Pairs: pairs(7, 8)})
	checkNoTree(t, "a leaf that no route leads to", x)
	checkNoTree(t, "a route of itself", api.Tree{Nodes: []api.Node{{Route: true, Key: 5}}})
	checkNoTree(t, "one leaf twice", api.Tree{Nodes: []api.Node{{Route: true, Key: 5, Left: 1, Right: 1}, {}}})
	more := grown(0, 1000, 0, shapes[3])
	checkNoTree(t, "too many nodes", more)
	checkNoTree(t, "too many nodes", moved(more, layouts[1]))
}

// P17.2: Run by hand, step by step, from one leaf to many and back: so many of
// the operations in one Run leave so much.
func TestRunByHand(t *testing.T) {
	eager := api.Policy{High: 1, Low: -1, Cont: 2, Uncont: -1, Multi: 3}
	rows := []struct {
		op   api.Op
		told api.Ans
		want api.Tree
	}{
		{put(5, 51), none, hold(1, 5)}, {put(5, 51), was(5, 51), hold(2, 5)}, {get(5), was(5, 51), hold(2, 5)},
		{put(8, 81), none, fork(8, hold(0, 5), hold(0, 8))}, {api.Op{Kind: 9, Key: 5}, wrong, fork(8, hold(0, 5), hold(0, 8))},
		{add(6, 61), none, fork(8, hold(1, 5, 6), hold(0, 8))}, {get(6), was(6, 61), fork(8, hold(1, 5, 6), hold(0, 8))},
		{add(6, 99), was(6, 61), fork(8, fork(6, hold(0, 5), hold(0, 6)), hold(0, 8))}, {put(7, 71), none, fork(8, fork(6, hold(0, 5), hold(1, 6, 7)), hold(0, 8))},
		{within(6, 7), all(pairs(6, 7)...), fork(8, fork(6, hold(0, 5), hold(1, 6, 7)), hold(0, 8))}, {count(8, 1), many(0), fork(8, fork(6, hold(0, 5), hold(1, 6, 7)), hold(0, 8))},
		{within(6, 8), all(pairs(6, 7, 8)...), fork(8, hold(0, 5, 6, 7), hold(-3, 8))}, {least(), was(5, 51), fork(8, hold(0, 5, 6, 7), hold(-3, 8))},
		{add(9, 91), none, hold(0, 5, 6, 7, 8, 9)}, {cut(9), was(9, 91), hold(1, 5, 6, 7, 8)}, {cut(9), none, fork(7, hold(0, 5, 6), hold(0, 7, 8))},
		{most(), was(8, 81), fork(7, hold(0, 5, 6), hold(0, 7, 8))}, {api.Op{}, wrong, fork(7, hold(0, 5, 6), hold(0, 7, 8))},
		{count(0, 99), many(4), hold(0, 5, 6, 7, 8)}, {count(0, 99), many(4), hold(0, 5, 6, 7, 8)},
	}
	x := tree.One(nil)
	checkRun(t, x, eager, nil, x, nil)
	for i := range rows {
		var ops []api.Op
		var told []api.Ans
		for _, r := range rows[:i+1] {
			ops, told = append(ops, r.op), append(told, r.told)
		}
		checkRun(t, x, eager, ops, rows[i].want, told)
		before := hold(0)
		if i > 0 {
			before = rows[i-1].want
		}
		checkDo(t, moved(before, layouts[i%3]), eager, rows[i].op, rows[i].want, rows[i].told)
	}
}

// P17.2: Run of none leaves the tree, plain, whatever its Stats ask for; of
// operations that may not be, too, and each of these tells ErrArg.
func TestRunOfNone(t *testing.T) {
	var bad []api.Op
	var told []api.Ans
	for _, kind := range noKinds {
		bad, told = append(bad, api.Op{Kind: kind, Key: 3, Hi: 9, Val: 5}), append(told, wrong)
	}
	for i, p := range few() {
		x := moved(p, layouts[i%3])
		for _, pol := range policies {
			checkRun(t, x, pol, nil, p, nil)
			checkRun(t, x, pol, []api.Op{}, p, nil)
		}
		checkRun(t, x, policies[0], bad, p, told)
		checkRun(t, x, policies[0], bad[:1], p, told[:1])
	}
}

// rolled is so many operations of all kinds, now and then one that may not be.
func rolled(roll func(int) int, n, keys int) []api.Op {
	var ops []api.Op
	for i := range n {
		op := api.Op{Kind: 1 + roll(8), Key: roll(keys) - 11, Hi: roll(keys) - 11, Val: i - n/2}
		switch roll(20) {
		case 0:
			op.Kind = noKinds[roll(len(noKinds))]
		case 1:
			op.Key = []int{low, high}[roll(2)]
		case 2:
			op.Hi = []int{low, high}[roll(2)]
		case 3, 4, 5, 6, 7, 8, 9:
			op.Kind = oPut + roll(3)
		}
		ops = append(ops, op)
	}
	return ops
}

// P17.2, P17.3: many operations in a row, on trees of all shapes, under each
// policy: one Run of all, Runs of a few, and Do after Do leave and tell the same:
// what the document's words say.
func TestManyInARow(t *testing.T) {
	roll := rolls()
	bent := map[int]bool{}
	for i := range 60 {
		p := grown(0, roll(8), 0, shapes[i%len(shapes)])
		pol := policies[i%len(policies)]
		x := moved(p, layouts[i%3])
		ops := rolled(roll, 80, 20+10*roll(8))
		k, q, u := keyedOf(tree.All(p)), p, x
		var told []api.Ans
		for j, op := range ops {
			told, q = append(told, k.do(op)), doneOf(q, pol, op)
			was := cloned(u)
			v, a := Do(u, pol, op)
			if !alike(v, q) || !alikeAns(a, told[j]) {
				t.Fatalf("%d: %+v under %+v in %v: %v, %+v, not %v, %+v", j, op, pol, u, v, a, q, told[j])
			}
			if !alike(u, was) {
				t.Fatalf("what was handed in is %v now, not %v", u, was)
			}
			if !slices.Equal(tree.All(v), k.pairs(low, high)) {
				t.Fatalf("%v does not hold %v", v, k)
			}
			bent[len(v.Nodes)-len(u.Nodes)] = true
			u = moved(v, layouts[roll(3)])
		}
		checkRun(t, x, pol, ops, q, told)
		for from := 0; from < len(ops); {
			to := min(len(ops), from+roll(9))
			y, all := Run(x, pol, ops[from:to]...)
			if !alikeAll(all, told[from:to]) {
				t.Fatalf("Run of %+v: %+v, not %+v", ops[from:to], all, told[from:to])
			}
			x, from = y, to
		}
		if !alike(x, q) {
			t.Fatalf("Runs leave %v, not %v", x, q)
		}
	}
	if !bent[-2] || !bent[0] || !bent[2] {
		t.Errorf("leaves were not split, left and joined: %v", bent)
	}
}

// P17.3 (T2, T3): answers hang on no policy and on no shape: they are those of
// one map of all pairs, and so are the pairs that are left.
func TestNoFace(t *testing.T) {
	roll := rolls()
	for range 4 {
		var l []api.Pair
		for key := -20; key < 80; key += 1 + roll(9) {
			l = append(l, api.Pair{Key: key, Val: roll(1000)})
		}
		ops := rolled(roll, 120, 100)
		m := model.New(l...)
		told := m.Run(ops...)
		k := keyedOf(l)
		for j, op := range ops {
			if !alikeAns(k.do(op), told[j]) {
				t.Fatalf("%+v: %+v", op, told[j])
			}
		}
		for i, s := range shapes {
			for n := range 9 {
				for j, pol := range append(policies, policy.Off(), policy.Eager(), tough) {
					x := moved(filled(grown(0, n, 0, s), l), layouts[(i+j)%3])
					u, all := Run(x, pol, ops...)
					if !alikeAll(all, told) || !slices.Equal(tree.All(u), m.Pairs()) || !slices.Equal(tree.All(u), k.pairs(low, high)) {
						t.Fatalf("%v under %+v: %+v, not %+v", x, pol, all, told)
					}
				}
			}
		}
	}
}

// filled is the plain tree with these pairs in the leaves instead.
func filled(x api.Tree, l []api.Pair) api.Tree {
	x = cloned(x)
	for i := range x.Nodes {
		x.Nodes[i].Pairs = nil
	}
	for _, p := range l {
		n := &x.Nodes[touchedOf(x, get(p.Key))[0]]
		n.Pairs = append(n.Pairs, p)
	}
	return x
}

// P17.3: under Off no leaf of few presses is ever bent, however many operations
// come, and no Stat turns.
func TestOff(t *testing.T) {
	p := grown(0, 9, 0, shapes[3])
	u, _ := Run(p, policy.Off(), rolled(rolls(), 2000, 110)...)
	if !alike(filled(u, nil), filled(p, nil)) {
		t.Fatalf("%v has bent, or its Stats have turned", u)
	}
}

// R2: what was told stays as it was told, whatever is done with it afterwards, by
// calls that are handed it.
func TestToldStays(t *testing.T) {
	roll := rolls()
	u := made()
	var trees, wants []api.Tree
	var told, were []api.Ans
	for _, op := range rolled(roll, 300, 40) {
		v, a := Do(u, policies[roll(3)], op)
		trees, wants = append(trees, v), append(wants, cloned(v))
		b := a
		b.Pairs = slices.Clone(a.Pairs)
		told, were = append(told, a), append(were, b)
		u = v
	}
	for i := range trees {
		if !alike(trees[i], wants[i]) {
			t.Fatalf("%d is %v now, not %v", i, trees[i], wants[i])
		}
	}
	if !alikeAll(told, were) {
		t.Fatal("what was told is otherwise now")
	}
}

// R2: leaves whose lists lie right behind one another in one array, or are empty
// pieces of one.
func TestListsOfOneArray(t *testing.T) {
	back := pairs(1, 2, 5, 6, 8, 9)
	was := slices.Clone(back)
	x := api.Tree{Nodes: []api.Node{
		{Route: true, Key: 5, Left: 1, Right: 2, Pairs: back[:0]}, {Pairs: back[:2]},
		{Route: true, Key: 8, Left: 3, Right: 4, Pairs: back[3:3]}, {Pairs: back[2:4]}, {Pairs: back[4:5]},
	}}
	empty := api.Tree{Nodes: []api.Node{{Route: true, Key: 5, Left: 1, Right: 2, Pairs: back[:0]}, {Pairs: back[:0]}, {Pairs: back[:0]}}}
	for _, y := range []api.Tree{x, empty} {
		for _, op := range []api.Op{put(1, 9), put(3, 9), add(7, 9), cut(2), cut(5), get(1), within(1, 9), within(1, 2), count(low, high), least(), {Kind: 9}} {
			u, a := Do(y, policies[0], op)
			for i := range u.Nodes {
				u.Nodes[i].Pairs = append(u.Nodes[i].Pairs, api.Pair{Key: i})
			}
			for i, n := range u.Nodes {
				if n.Pairs[len(n.Pairs)-1].Key != i {
					t.Errorf("%+v: lists share memory: %v", op, u)
				}
				spoil(n.Pairs)
			}
			spoil(a.Pairs)
			if !slices.Equal(back, was) {
				t.Fatalf("%+v: what was handed in is %v now", op, back)
			}
		}
	}
}

// P17.2: on one leaf under Off the pairs and the answers are those of leaf.Do.
func TestAsOneLeaf(t *testing.T) {
	u, l := tree.One(nil), []api.Pair(nil)
	for _, op := range rolled(rolls(), 1500, 40) {
		v, a := Do(u, policy.Off(), op)
		after, b := leaf.Do(l, op)
		if !alikeAns(a, b) || !alike(v, api.Tree{Nodes: []api.Node{{Pairs: after}}}) {
			t.Fatalf("%+v in %v: %v, %+v, not %v, %+v", op, u, v, a, after, b)
		}
		u, l = v, after
	}
}

// The chapter's example: under Eager two OPuts of unlike keys leave a route and
// two leaves.
func TestExample(t *testing.T) {
	u, a := Run(tree.One(nil), policy.Eager(), put(1, 11), put(2, 21))
	want := api.Tree{Nodes: []api.Node{{Route: true, Key: 2, Left: 1, Right: 2}, {Pairs: pairs(1)}, {Pairs: pairs(2)}}}
	if !alike(u, want) || !alikeAll(a, []api.Ans{none, none}) {
		t.Errorf("%v, %+v", u, a)
	}
	u, _ = Run(tree.One(nil), policy.Eager(), put(1, 11), put(1, 12))
	if !alike(u, of(2, []api.Pair{{Key: 1, Val: 12}})) {
		t.Errorf("of like keys: %v", u)
	}
}
