package part

import (
	"maps"
	"math"
	"slices"
	"testing"

	"osier/api"
	"osier/arena"
	"osier/look"
	"osier/mix"
	"osier/node"
)

// above is the place of the pair that mix has above all others.
func above(l []api.Pair) int {
	top := 0
	for i, p := range l {
		if mix.Above(p.Key, l[top].Key) {
			top = i
		}
	}
	return top
}

// built is the treap of pairs whose keys rise.
func built(t *testing.T, a *arena.Arena, l []api.Pair) int {
	t.Helper()
	if len(l) == 0 {
		return 0
	}
	i := above(l)
	left := built(t, a, l[:i])
	return makeOne(t, a, l[i], left, built(t, a, l[i+1:]))
}

// treapOf is an arena with the treap of those pairs, and that much room left.
func treapOf(t *testing.T, room int, l []api.Pair) (*arena.Arena, int) {
	t.Helper()
	a := arena.New(len(l) + room)
	return a, built(t, a, l)
}

// makeOne makes a node, and tells its number.
func makeOne(t *testing.T, a *arena.Arena, p api.Pair, left, right int) int {
	t.Helper()
	id, e := node.Make(a, p, left, right)
	if e != api.OK {
		t.Fatalf("Make(%v, %d, %d): error %d", p, left, right, e)
	}
	return id
}

// byHand makes a record, and fails where it doesn't get that number.
func byHand(t *testing.T, a *arena.Arena, want, kind int, vals ...int) {
	t.Helper()
	if id, e := a.Make(kind, vals...); id != want || e != api.OK {
		t.Fatalf("a record of kind %d: %d, %d, not %d", kind, id, e, want)
	}
}

// isOf says whether id is just the treap of pairs whose keys rise: the pair that
// is above all others stands on top, sizes and heights are those of what hangs
// there, and numbers fall on every way down.
func isOf(a *arena.Arena, id int, l []api.Pair) bool {
	_, ok := highOf(a, id, l)
	return ok
}

// highOf is the height of the treap of those pairs, and whether id is it.
func highOf(a *arena.Arena, id int, l []api.Pair) (int, bool) {
	if len(l) == 0 {
		return 0, id == 0
	}
	n, ok := node.Get(a, id)
	i := above(l)
	if !ok || n.Pair != l[i] || n.Size != len(l) || n.Left >= id || n.Right >= id {
		return 0, false
	}
	left, okLeft := highOf(a, n.Left, l[:i])
	right, okRight := highOf(a, n.Right, l[i+1:])
	return n.High, okLeft && okRight && n.High == max(left, right)+1
}

// same says whether two treaps say the same, node by node.
func same(a *arena.Arena, t, u int) bool {
	n, ok := node.Get(a, t)
	m, there := node.Get(a, u)
	if !ok || !there {
		return t == 0 && u == 0
	}
	return n.Pair == m.Pair && n.Size == m.Size && n.High == m.High &&
		same(a, n.Left, m.Left) && same(a, n.Right, m.Right)
}

// joined is the treap of l's pairs and r's, whose keys are above those of l.
func joined(t *testing.T, a *arena.Arena, l, r int) int {
	t.Helper()
	m, okLeft := node.Get(a, l)
	n, okRight := node.Get(a, r)
	switch {
	case !okLeft:
		return r
	case !okRight:
		return l
	case mix.Above(m.Key, n.Key):
		return makeOne(t, a, m.Pair, m.Left, joined(t, a, m.Right, r))
	default:
		return makeOne(t, a, n.Pair, joined(t, a, l, n.Left), n.Right)
	}
}

// pairs is so many pairs: keys rise by a number, values fall and come to 0.
func pairs(from, by, n int) []api.Pair {
	var l []api.Pair
	for i := range n {
		l = append(l, api.Pair{Key: from + i*by, Val: 3 - i})
	}
	return l
}

// rule is numbers that go all over int, one after the other.
func rule(seed int) func() int {
	x := uint64(seed)
	return func() int {
		x += 0x9e3779b97f4a7c15
		return int((x ^ x>>29) * 0xbf58476d1ce4e5b9)
	}
}

// mixed is up to so many pairs, with keys that lie the closer the more they are
// shifted.
func mixed(seed, n, shift int) []api.Pair {
	next := rule(seed)
	m := map[int]int{}
	for range n {
		m[next()>>shift] = next()
	}
	var l []api.Pair
	for _, key := range slices.Sorted(maps.Keys(m)) {
		l = append(l, api.Pair{Key: key, Val: m[key]})
	}
	return l
}

// rows is pairs of many kinds: none, one, two, an odd and an even number, many;
// close, far, at the ends of int.
func rows() [][]api.Pair {
	var l [][]api.Pair
	for n := range 40 {
		l = append(l, pairs(-20, 3, n), mixed(n, n, n))
	}
	ends := []api.Pair{
		{Key: math.MinInt, Val: math.MaxInt}, {Key: math.MinInt + 1, Val: math.MinInt},
		{Key: -1, Val: 1}, {Key: 0, Val: 0}, {Key: 1, Val: -1},
		{Key: math.MaxInt - 1, Val: math.MinInt}, {Key: math.MaxInt, Val: math.MaxInt},
	}
	for from := range ends {
		for to := from; to <= len(ends); to++ {
			l = append(l, ends[from:to])
		}
	}
	return append(l, pairs(7, 1, 100), pairs(-1000, 11, 201), mixed(1, 200, 2))
}

// far is keys at the ends and in the middle of int.
var far = []int{math.MinInt, math.MinInt + 1, -1, 0, 1, 5, math.MaxInt - 1, math.MaxInt}

// keysOf is the keys of those pairs, those beside them, and far ones.
func keysOf(l []api.Pair) []int {
	keys := slices.Clone(far)
	for _, p := range l {
		keys = append(keys, p.Key-1, p.Key, p.Key+1)
	}
	return keys
}

// split is the pairs whose keys are below key, and the others.
func split(l []api.Pair, key int) ([]api.Pair, []api.Pair) {
	i := 0
	for i < len(l) && l[i].Key < key {
		i++
	}
	return l[:i], l[i:]
}

// one parts the treap id of pairs l, and fails where something else is told, too
// many records are made, or l's treap or a cell is touched.
func one(t *testing.T, a *arena.Arena, id int, l []api.Pair, key int) (int, int) {
	t.Helper()
	used, high := a.Used(), look.High(a, id)
	below, others := split(l, key)
	left, right, e := At(a, id, key)
	if e != api.OK || !isOf(a, left, below) || !isOf(a, right, others) {
		t.Errorf("%v at %d: %d, not the treaps of %v and %v", l, key, e, below, others)
	}
	if !isOf(a, id, l) {
		t.Errorf("%v at %d: that is not as it was", l, key)
	}
	if made := a.Used() - used; made > high || a.Steps() != 0 {
		t.Errorf("%v at %d: %d records, high %d, %d steps", l, key, made, high, a.Steps())
	}
	return left, right
}

// halved halves the treap id of at least two pairs l, and fails as one does.
func halved(t *testing.T, a *arena.Arena, id int, l []api.Pair) {
	t.Helper()
	used, high := a.Used(), look.High(a, id)
	i := len(l) / 2
	middle, ok := Middle(a, id)
	if middle != l[i].Key || !ok || a.Used() != used {
		t.Errorf("the middle of %v: %d, %v", l, middle, ok)
	}
	key, left, right, e := Half(a, id)
	if key != l[i].Key || e != api.OK || !isOf(a, left, l[:i]) || !isOf(a, right, l[i:]) {
		t.Errorf("%v halved: %d, %d, not %d and the treaps of %v and %v", l, key, e, l[i].Key, l[:i], l[i:])
	}
	if more := look.Size(a, right) - look.Size(a, left); more != 0 && more != 1 {
		t.Errorf("%v halved: right is larger by %d", l, more)
	}
	if !isOf(a, id, l) {
		t.Errorf("%v halved: that is not as it was", l)
	}
	if made := a.Used() - used; made > high || a.Steps() != 0 {
		t.Errorf("%v halved: %d records, high %d, %d steps", l, made, high, a.Steps())
	}
}

// atRefused fails where At tells another error than that, or anything beside it,
// or makes something beside ErrArg.
func atRefused(t *testing.T, a *arena.Arena, id, key int, want api.Errno) {
	t.Helper()
	used := a.Used()
	left, right, e := At(a, id, key)
	if left != 0 || right != 0 || e != want {
		t.Errorf("%d at %d: %d, %d, %d, not error %d", id, key, left, right, e, want)
	}
	if want == api.ErrArg && a.Used() != used {
		t.Errorf("%d at %d: made something", id, key)
	}
}

// halfRefused is the same of Half, which makes nothing beside ErrNone either.
func halfRefused(t *testing.T, a *arena.Arena, id int, want api.Errno) {
	t.Helper()
	used := a.Used()
	key, left, right, e := Half(a, id)
	if key != 0 || left != 0 || right != 0 || e != want {
		t.Errorf("%d halved: %d, %d, %d, %d, not error %d", id, key, left, right, e, want)
	}
	if want != api.ErrFull && a.Used() != used {
		t.Errorf("%d halved: made something", id)
	}
}

// noMiddle fails where there is a middle, or something was made.
func noMiddle(t *testing.T, a *arena.Arena, id int) {
	t.Helper()
	used := a.Used()
	if key, ok := Middle(a, id); key != 0 || ok || a.Used() != used {
		t.Errorf("the middle of %d: %d, %v", id, key, ok)
	}
}

// P7.1: the chapter's example: Half of keys 1 2 3: 2: 1, and 2 3.
func TestExample(t *testing.T) {
	a, id := treapOf(t, 9, []api.Pair{{Key: 1, Val: 10}, {Key: 2, Val: 20}, {Key: 3, Val: 30}})
	key, left, right, e := Half(a, id)
	if key != 2 || e != api.OK || !isOf(a, left, []api.Pair{{Key: 1, Val: 10}}) || !isOf(a, right, []api.Pair{{Key: 2, Val: 20}, {Key: 3, Val: 30}}) {
		t.Errorf("%d, %d", key, e)
	}
}

// P7.1: treaps of many kinds, at each key that is there, beside those, between,
// below and above all, and at the ends of int.
func TestAt(t *testing.T) {
	for _, l := range rows() {
		a, id := treapOf(t, 20000, l)
		for _, key := range keysOf(l) {
			one(t, a, id, l, key)
		}
	}
}

// P7.1: a key that is there goes to the others: at the least key all do, at the
// greatest one that one does.
func TestKeyThere(t *testing.T) {
	for _, l := range rows() {
		if len(l) == 0 {
			continue
		}
		a, id := treapOf(t, 20000, l)
		left, right := one(t, a, id, l, l[0].Key)
		if left != 0 || !same(a, right, id) {
			t.Errorf("%v at the least key: %d is left of it", l, left)
		}
		_, right = one(t, a, id, l, l[len(l)-1].Key)
		if look.Size(a, right) != 1 {
			t.Errorf("%v at the greatest key: %d others", l, look.Size(a, right))
		}
		for _, p := range l {
			left, right := one(t, a, id, l, p.Key)
			first, ok := look.Min(a, right)
			if _, there := look.Get(a, left, p.Key); there || first != p || !ok {
				t.Errorf("%v at %d: %v, and the others begin with %v, %v", l, p.Key, there, first, ok)
			}
		}
	}
}

// P7.1: of nothing both parts are nothing, also where there is no room, or never
// was any.
func TestNothing(t *testing.T) {
	for _, a := range []*arena.Arena{arena.New(9), arena.New(0), {}} {
		for _, key := range far {
			if left, right, e := At(a, 0, key); left != 0 || right != 0 || e != api.OK || a.Used() != 0 {
				t.Errorf("nothing at %d: %d, %d, %d", key, left, right, e)
			}
		}
	}
}

// P7.1: there is no middle of fewer than two pairs, and no half, whether or not
// there is room.
func TestFewerThanTwo(t *testing.T) {
	for _, l := range [][]api.Pair{nil, {{}}, {{Key: 7, Val: 8}}, {{Key: math.MinInt, Val: 1}}, {{Key: math.MaxInt, Val: -1}}} {
		for _, room := range []int{0, 1, 20} {
			a, id := treapOf(t, room, l)
			noMiddle(t, a, id)
			halfRefused(t, a, id, api.ErrNone)
			if !isOf(a, id, l) || a.Steps() != 0 {
				t.Errorf("%v is not as it was", l)
			}
		}
	}
	noMiddle(t, &arena.Arena{}, 0)
	halfRefused(t, &arena.Arena{}, 0, api.ErrNone)
}

// P7.1, P7.2: halves of treaps of many kinds.
func TestHalf(t *testing.T) {
	for _, l := range rows() {
		if len(l) > 1 {
			a, id := treapOf(t, 100, l)
			halved(t, a, id, l)
		}
	}
}

// P7.1: a middle that is 0 is told as there.
func TestMiddleZero(t *testing.T) {
	for _, l := range [][]api.Pair{{{Key: -1}, {Key: 0}}, {{Key: -5}, {Key: 0}, {Key: 9}}, {{Key: math.MinInt}, {Key: -1}, {Key: 0}, {Key: 1}}} {
		a, id := treapOf(t, 9, l)
		if key, ok := Middle(a, id); key != 0 || !ok {
			t.Errorf("the middle of %v: %d, %v", l, key, ok)
		}
		halved(t, a, id, l)
	}
}

// P7.1: Half is At of the Middle, record for record.
func TestHalfIsAt(t *testing.T) {
	for _, l := range rows() {
		if len(l) < 2 {
			continue
		}
		a, id := treapOf(t, 300, l)
		b, twin := treapOf(t, 300, l)
		_, left, right, _ := Half(a, id)
		middle, _ := Middle(b, twin)
		x, y, _ := At(b, twin, middle)
		if left != x || right != y || a.Used() != b.Used() {
			t.Errorf("%v: %d, %d of %d; At: %d, %d of %d", l, left, right, a.Used(), x, y, b.Used())
		}
	}
}

// P7.1: halves halved again and again, till each has one pair: all treaps stay
// as they were, to the end.
func TestHalvesOfHalves(t *testing.T) {
	for n := range 70 {
		l := mixed(n, n, n%60)
		a, id := treapOf(t, 20000, l)
		var check func(int, []api.Pair)
		check = func(u int, m []api.Pair) {
			if len(m) > 1 {
				halved(t, a, u, m)
				_, left, right, _ := Half(a, u)
				check(left, m[:len(m)/2])
				check(right, m[len(m)/2:])
			}
			if !isOf(a, u, m) {
				t.Errorf("%v is not as it was", m)
			}
		}
		check(id, l)
	}
}

// P7.1: long rows of parts, each of one of those that came before: all treaps
// stay as they were, to the end.
func TestRows(t *testing.T) {
	type was struct {
		id   int
		says []api.Pair
	}
	for seed := range 30 {
		next := rule(seed)
		l := mixed(seed, 60, 50+seed%8)
		a, id := treapOf(t, 20000, l)
		all := []was{{id, l}}
		for range 100 {
			from := all[int(uint(next())%uint(len(all)))]
			key := next() >> (50 + seed%8)
			left, right := one(t, a, from.id, from.says, key)
			below, others := split(from.says, key)
			all = append(all, was{left, below}, was{right, others})
		}
		for _, w := range all {
			if !isOf(a, w.id, w.says) {
				t.Errorf("row %d: treap %d is not as it was", seed, w.id)
			}
		}
	}
}

// P7.2: both parts joined are the treap again, node by node; so are both halves.
func TestJoinedAgain(t *testing.T) {
	for _, l := range rows() {
		a, id := treapOf(t, 40000, l)
		for _, key := range keysOf(l) {
			left, right := one(t, a, id, l, key)
			if !same(a, joined(t, a, left, right), id) {
				t.Errorf("%v at %d: joined that is another treap", l, key)
			}
		}
		if len(l) < 2 {
			continue
		}
		_, left, right, e := Half(a, id)
		if !same(a, joined(t, a, left, right), id) || e != api.OK {
			t.Errorf("%v halved: %d, joined that is another treap", l, e)
		}
	}
}

// odd is an arena with a node (1), a cell that holds the node's number (2), and
// records of other kinds that say what the node says (3, 4), with that much room
// left; and the numbers in it that no treap has.
func odd(t *testing.T, room int) (*arena.Arena, []int) {
	t.Helper()
	a := arena.New(4 + room)
	makeOne(t, a, api.Pair{Key: 5, Val: 6}, 0, 0)
	if id, e := a.Cell(1); id != 2 || e != api.OK {
		t.Fatalf("the cell: %d, %d", id, e)
	}
	byHand(t, a, 3, 2, 5, 6, 0, 0, 2, 1)
	byHand(t, a, 4, math.MaxInt, 5, 6, 0, 0, 2, 1)
	return a, []int{math.MinInt, -4, -1, 2, 3, 4, 5, 6, 20, 21, api.MaxArena, api.MaxArena + 1, math.MaxInt}
}

// P7.1: what is neither 0 nor a node, whether or not there is room; a node among
// such things, and nothing at all.
func TestNoTreap(t *testing.T) {
	for _, room := range []int{0, 1, 30} {
		a, wrong := odd(t, room)
		for _, id := range wrong {
			for _, key := range far {
				atRefused(t, a, id, key, api.ErrArg)
			}
			noMiddle(t, a, id)
			halfRefused(t, a, id, api.ErrArg)
		}
		if a.Used() != 4 || a.Steps() != 0 {
			t.Errorf("%d records, %d steps", a.Used(), a.Steps())
		}
	}
	a, _ := odd(t, 30)
	for _, key := range far {
		one(t, a, 1, []api.Pair{{Key: 5, Val: 6}}, key)
		one(t, a, 0, nil, key)
	}
	halfRefused(t, a, 1, api.ErrNone)
	atRefused(t, &arena.Arena{}, 1, 0, api.ErrArg)
	halfRefused(t, &arena.Arena{}, 1, api.ErrArg)
}

// P7.1: no arena.
func TestNil(t *testing.T) {
	for _, id := range []int{math.MinInt, -1, 0, 1, 2, math.MaxInt} {
		for _, key := range far {
			atRefused(t, nil, id, key, api.ErrArg)
		}
		noMiddle(t, nil, id)
		halfRefused(t, nil, id, api.ErrArg)
	}
}

// R6: a treap is one of its own arena: what is done in another one doesn't
// matter.
func TestTwoArenas(t *testing.T) {
	l, m := pairs(1, 2, 9), pairs(-30, 5, 4)
	a, id := treapOf(t, 500, l)
	b, other := treapOf(t, 500, m)
	for key := -31; key < 20; key++ {
		one(t, a, id, l, key)
		one(t, b, other, m, key)
		halved(t, a, id, l)
		halved(t, b, other, m)
	}
	atRefused(t, arena.New(20), id, 1, api.ErrArg)
	halfRefused(t, arena.New(20), id, api.ErrArg)
}

// P7.1, P7.2: an arena that is full, or becomes full on the way: with whatever
// room there is, all is done or nothing; with High it is done.
func TestFull(t *testing.T) {
	for _, l := range [][]api.Pair{pairs(0, 2, 1), pairs(0, 2, 2), pairs(0, 2, 3), pairs(0, 2, 8), pairs(0, 2, 21), mixed(1, 60, 50)} {
		for _, key := range keysOf(l) {
			fullAt(t, l, key)
		}
		if len(l) > 1 {
			fullHalf(t, l)
		}
	}
}

// fullAt parts a treap with less room than it takes, with just that, and with
// High.
func fullAt(t *testing.T, l []api.Pair, key int) {
	t.Helper()
	wide, id := treapOf(t, 1000, l)
	one(t, wide, id, l, key)
	takes := wide.Used() - len(l)
	for room := range takes {
		a, id := treapOf(t, room, l)
		atRefused(t, a, id, key, api.ErrFull)
		if !isOf(a, id, l) || a.Steps() != 0 {
			t.Errorf("at %d with room for %d: %v is not as it was", key, room, l)
		}
	}
	for _, room := range []int{takes, look.High(wide, id)} {
		a, id := treapOf(t, room, l)
		one(t, a, id, l, key)
	}
}

// fullHalf halves a treap with less room than it takes, with just that, and with
// High. The Middle needs no room.
func fullHalf(t *testing.T, l []api.Pair) {
	t.Helper()
	wide, id := treapOf(t, 1000, l)
	halved(t, wide, id, l)
	takes := wide.Used() - len(l)
	for room := range takes {
		a, id := treapOf(t, room, l)
		if key, ok := Middle(a, id); key != l[len(l)/2].Key || !ok {
			t.Errorf("with room for %d: the middle of %v is %d, %v", room, l, key, ok)
		}
		halfRefused(t, a, id, api.ErrFull)
		if !isOf(a, id, l) || a.Steps() != 0 {
			t.Errorf("halved with room for %d: %v is not as it was", room, l)
		}
	}
	for _, room := range []int{takes, look.High(wide, id)} {
		a, id := treapOf(t, room, l)
		halved(t, a, id, l)
	}
}

// P7.2: treaps of whatever keys: High records are enough, for each key.
func TestRoom(t *testing.T) {
	for _, l := range rows() {
		wide, id := treapOf(t, 0, l)
		high := look.High(wide, id)
		for _, key := range keysOf(l) {
			a, id := treapOf(t, high, l)
			one(t, a, id, l, key)
		}
		if len(l) > 1 {
			a, id := treapOf(t, high, l)
			halved(t, a, id, l)
		}
	}
}

// Layer 3's words: what hangs on a record that was made by hand, and isn't a
// node, or hasn't a lower number, counts as nothing, and does so in both parts,
// whose numbers are higher.
func TestHung(t *testing.T) {
	_, wrong := odd(t, 9)
	for _, hung := range append(wrong, 7) {
		for key := 48; key < 53; key++ {
			a, _ := odd(t, 9)
			byHand(t, a, 5, 1, 50, 60, hung, hung, 1, 1)
			makeOne(t, a, api.Pair{Key: 50, Val: 1}, 0, 0)
			makeOne(t, a, api.Pair{Key: 50, Val: 2}, 0, 0)
			below, others := split([]api.Pair{{Key: 50, Val: 60}}, key)
			left, right, e := At(a, 5, key)
			if e != api.OK || !isOf(a, left, below) || !isOf(a, right, others) {
				t.Errorf("hung %d, at %d: %d, %d, %d", hung, key, left, right, e)
			}
		}
	}
}

// Layer 3's words, of what hangs below the top: there, too, it counts as nothing
// in both parts.
func TestHungBelow(t *testing.T) {
	for key := 5; key < 45; key += 10 {
		a := arena.New(30)
		byHand(t, a, 1, 1, 10, 1, 4, 5, 1, 1)
		byHand(t, a, 2, 1, 30, 3, 4, 5, 1, 1)
		byHand(t, a, 3, 1, 20, 2, 1, 2, 3, 2)
		for id := 4; id <= 7; id++ {
			makeOne(t, a, api.Pair{Key: 70 + id, Val: 9}, 0, 0)
		}
		left, right, e := At(a, 3, key)
		if e != api.OK {
			t.Fatalf("at %d: error %d", key, e)
		}
		for _, p := range []api.Pair{{Key: 10, Val: 1}, {Key: 20, Val: 2}, {Key: 30, Val: 3}} {
			u, other := left, right
			if p.Key > key {
				u, other = right, left
			}
			_, twice := look.Get(a, other, p.Key)
			if v, ok := look.Get(a, u, p.Key); v != p.Val || !ok || twice {
				t.Errorf("at %d: %d has %d, %v, %v", key, p.Key, v, ok, twice)
			}
		}
		for id := 4; id <= 7; id++ {
			_, inLeft := look.Get(a, left, 70+id)
			if _, inRight := look.Get(a, right, 70+id); inLeft || inRight {
				t.Errorf("at %d: %d came to be there", key, 70+id)
			}
		}
	}
}

// P7.1: a middle goes by what records say of their sizes, and is what Nth tells
// of that: where Nth tells none there is none, and no half.
func TestSizes(t *testing.T) {
	for _, size := range []int{math.MinInt, -2, -1, 0, 1, 2, 3, 4, 5, 1000, math.MaxInt - 1, math.MaxInt} {
		a := arena.New(20)
		byHand(t, a, 1, 1, 10, 1, 0, 0, 1, 1)
		byHand(t, a, 2, 1, 20, 2, 1, 0, size, 2)
		if size != 2 && size != 3 {
			noMiddle(t, a, 2)
			halfRefused(t, a, 2, api.ErrNone)
			continue
		}
		key, ok := Middle(a, 2)
		if key != 20 || !ok {
			t.Errorf("size %d: the middle %d, %v", size, key, ok)
		}
		key, left, right, e := Half(a, 2)
		if key != 20 || e != api.OK || !isOf(a, left, []api.Pair{{Key: 10, Val: 1}}) || !isOf(a, right, []api.Pair{{Key: 20, Val: 2}}) {
			t.Errorf("size %d: halved %d, %d", size, key, e)
		}
	}
}

// P7.1: records that say anything and hang on one another in rings, among cells
// and other records, with much room and with little: every call ends, without a
// panic, and tells one error at most, and nothing beside it; what was there
// stays.
func TestRings(t *testing.T) {
	for seed := range 3000 {
		next := rule(seed)
		in := func(lo, hi int) int { return lo + int(uint(next())%uint(hi-lo)) }
		many := in(1, 9)
		a := arena.New(many + in(0, 12)*in(0, 12))
		for id := 1; id <= many; id++ {
			if kind := in(0, 8); kind == 0 {
				a.Cell(in(-2, many+3))
			} else {
				kind = max(1, kind-5)
				byHand(t, a, id, kind, in(-3, 8), next(), in(-2, many+4), in(-2, many+4), next()>>in(0, 63), next()>>in(0, 63))
			}
		}
		was := said(a, many)
		for id := -1; id <= many+1; id++ {
			for key := -4; key < 9; key++ {
				atEnds(t, a, id, key)
			}
			halfEnds(t, a, id)
		}
		if !slices.Equal(was, said(a, many)) || a.Steps() != 0 {
			t.Errorf("seed %d: what was there is not as it was", seed)
		}
	}
}

// said is what the first records say.
func said(a *arena.Arena, many int) []int {
	var l []int
	for id := 1; id <= many; id++ {
		l = append(l, a.Kind(id))
		for i := range api.MaxVals {
			l = append(l, a.Val(id, i))
		}
	}
	return l
}

// isPart says whether u is nothing, or a node.
func isPart(a *arena.Arena, u int) bool {
	return u == 0 || a.Kind(u) == node.Kind
}

// atEnds fails where At of whatever tells what it may not tell.
func atEnds(t *testing.T, a *arena.Arena, id, key int) {
	t.Helper()
	left, right, e := At(a, id, key)
	switch {
	case e != api.OK && (left != 0 || right != 0):
		t.Errorf("%d at %d: %d, %d beside error %d", id, key, left, right, e)
	case isPart(a, id) == (e == api.ErrArg), e != api.OK && e != api.ErrArg && e != api.ErrFull:
		t.Errorf("%d at %d: error %d", id, key, e)
	case !isPart(a, left) || !isPart(a, right):
		t.Errorf("%d at %d: %d, %d", id, key, left, right)
	}
}

// halfEnds fails where Middle or Half of whatever tells what it may not tell.
func halfEnds(t *testing.T, a *arena.Arena, id int) {
	t.Helper()
	var want api.Pair
	there := false
	if size := look.Size(a, id); size > 1 {
		want, there = look.Nth(a, id, size/2)
	}
	if middle, ok := Middle(a, id); middle != want.Key || ok != there {
		t.Errorf("the middle of %d: %d, %v, not %d, %v", id, middle, ok, want.Key, there)
	}
	key, left, right, e := Half(a, id)
	switch {
	case e != api.OK && (key != 0 || left != 0 || right != 0):
		t.Errorf("%d halved: %d, %d, %d beside error %d", id, key, left, right, e)
	case isPart(a, id) == (e == api.ErrArg), isPart(a, id) && there == (e == api.ErrNone), e == api.ErrState:
		t.Errorf("%d halved: error %d", id, e)
	case e == api.OK && (key != want.Key || !isPart(a, left) || !isPart(a, right)):
		t.Errorf("%d halved: %d, %d, %d", id, key, left, right)
	}
}

// chain is a treap by hand that is one long way down to one side (-1: left), to
// the key 0; values are how far they are from it.
func chain(t *testing.T, a *arena.Arena, side, many int) int {
	t.Helper()
	id := 0
	for i := range many {
		p := api.Pair{Key: -side * i, Val: i}
		if side < 0 {
			id = makeOne(t, a, p, id, 0)
		} else {
			id = makeOne(t, a, p, 0, id)
		}
	}
	return id
}

// P7.1: ways down as long as an arena has room for are parted at their end and
// at their middle; longer ones are refused.
func TestLong(t *testing.T) {
	const many = api.MaxArena / 2
	for _, side := range []int{-1, 1} {
		least := min(0, -side*(many-1))
		for _, i := range []int{0, many / 2, many - 1} {
			a := arena.New(math.MaxInt)
			left, right, e := At(a, chain(t, a, side, many), least+i)
			if e != api.OK || look.Size(a, left) != i || look.Size(a, right) != many-i {
				t.Errorf("%d below: %d, %d, %d", i, look.Size(a, left), look.Size(a, right), e)
			}
		}
		a := arena.New(math.MaxInt)
		atRefused(t, a, chain(t, a, side, many+1), 0, api.ErrFull)
		b := arena.New(math.MaxInt)
		key, left, right, e := Half(b, chain(t, b, side, many))
		if key != least+many/2 || e != api.OK || look.Size(b, left) != many/2 || look.Size(b, right) != many/2 {
			t.Errorf("halved: %d, %d, %d, %d", key, look.Size(b, left), look.Size(b, right), e)
		}
	}
}
