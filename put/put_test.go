package put

import (
	"cmp"
	"maps"
	"math"
	"slices"
	"testing"

	"osier/api"
	"osier/arena"
	"osier/look"
	"osier/mix"
	"osier/node"
)

// call is Put or Add.
type call struct {
	name string
	do   func(*arena.Arena, int, api.Pair) (int, int, bool, api.Errno)
}

// both is Put and Add.
func both() []call {
	return []call{{"Put", Put}, {"Add", Add}}
}

// above is the place of the pair that mix has above all others.
func above(l []api.Pair) int {
	top := 0
	for i, p := range l {
		if mix.Above(p.Key, l[top].Key) {
			top = i
		}
	}
	return top
}

// built is the treap of pairs whose keys rise, made without this package.
func built(t *testing.T, a *arena.Arena, l []api.Pair) int {
	t.Helper()
	if len(l) == 0 {
		return 0
	}
	i := above(l)
	left := built(t, a, l[:i])
	return makeOne(t, a, l[i], left, built(t, a, l[i+1:]))
}

// makeOne makes a node, and tells its number.
func makeOne(t *testing.T, a *arena.Arena, p api.Pair, left, right int) int {
	t.Helper()
	id, e := node.Make(a, p, left, right)
	if e != api.OK {
		t.Fatalf("Make(%v, %d, %d): error %d", p, left, right, e)
	}
	return id
}

// byHand makes a record, and fails where it doesn't get that number.
func byHand(t *testing.T, a *arena.Arena, want, kind int, vals ...int) {
	t.Helper()
	if id, e := a.Make(kind, vals...); id != want || e != api.OK {
		t.Fatalf("a record of kind %d: %d, %d, not %d", kind, id, e, want)
	}
}

// isOf says whether id is just the treap of pairs whose keys rise: the pair that
// is above all others stands on top, sizes and heights are those of what hangs
// there, and numbers fall on every way down.
func isOf(a *arena.Arena, id int, l []api.Pair) bool {
	_, ok := highOf(a, id, l)
	return ok
}

// highOf is the height of the treap of those pairs, and whether id is it.
func highOf(a *arena.Arena, id int, l []api.Pair) (int, bool) {
	if len(l) == 0 {
		return 0, id == 0
	}
	n, ok := node.Get(a, id)
	i := above(l)
	if !ok || n.Pair != l[i] || n.Size != len(l) || n.Left >= id || n.Right >= id {
		return 0, false
	}
	left, okLeft := highOf(a, n.Left, l[:i])
	right, okRight := highOf(a, n.Right, l[i+1:])
	return n.High, okLeft && okRight && n.High == max(left, right)+1
}

// pairs is so many pairs: keys rise by a number, values fall and come to 0.
func pairs(from, by, n int) []api.Pair {
	var l []api.Pair
	for i := range n {
		l = append(l, api.Pair{Key: from + i*by, Val: 3 - i})
	}
	return l
}

// sorted is the pairs of a plain map, by key.
func sorted(m map[int]int) []api.Pair {
	var l []api.Pair
	for _, key := range slices.Sorted(maps.Keys(m)) {
		l = append(l, api.Pair{Key: key, Val: m[key]})
	}
	return l
}

// valueOf is the value of a key in a list, and whether it is there.
func valueOf(l []api.Pair, key int) (int, bool) {
	for _, p := range l {
		if p.Key == key {
			return p.Val, true
		}
	}
	return 0, false
}

// putInto is pairs whose keys rise, with p in the place of that of its key.
func putInto(l []api.Pair, p api.Pair) []api.Pair {
	at, there := slices.BinarySearchFunc(l, p.Key, func(q api.Pair, key int) int { return cmp.Compare(q.Key, key) })
	if there {
		return slices.Concat(l[:at], []api.Pair{p}, l[at+1:])
	}
	return slices.Concat(l[:at], []api.Pair{p}, l[at:])
}

// rule is numbers that go all over int, one after the other.
func rule(seed int) func() int {
	x := uint64(seed)
	return func() int {
		x += 0x9e3779b97f4a7c15
		return int((x ^ x>>29) * 0xbf58476d1ce4e5b9)
	}
}

// one puts or adds a pair to the treap id of pairs l, and fails where something
// else is told, too many records are made, or l's treap or a cell is touched.
func one(t *testing.T, a *arena.Arena, c call, id int, l []api.Pair, p api.Pair) int {
	t.Helper()
	used, high := a.Used(), look.High(a, id)
	old, there := valueOf(l, p.Key)
	want := putInto(l, p)
	if there && c.name == "Add" {
		want = l
	}
	u, v, ok, e := c.do(a, id, p)
	if v != old || ok != there || e != api.OK {
		t.Errorf("%s of %v to %v: %d, %v, %d, not %d, %v", c.name, p, l, v, ok, e, old, there)
	}
	if !isOf(a, u, want) {
		t.Errorf("%s of %v to %v: not the treap of %v", c.name, p, l, want)
	}
	if !isOf(a, id, l) {
		t.Errorf("%s of %v to %v: that is not as it was", c.name, p, l)
	}
	if made := a.Used() - used; made > 2*high+2 || a.Steps() != 0 {
		t.Errorf("%s of %v to %v: %d records, %d steps", c.name, p, l, made, a.Steps())
	}
	if there && c.name == "Add" && (u != id || a.Used() != used) {
		t.Errorf("Add of %v to %v: %d, not %d itself", p, l, u, id)
	}
	return u
}

// refused fails where a call tells another error than that, or anything beside
// it, or makes something beside ErrArg.
func refused(t *testing.T, a *arena.Arena, c call, id int, p api.Pair, want api.Errno) {
	t.Helper()
	used := a.Used()
	u, v, ok, e := c.do(a, id, p)
	if u != 0 || v != 0 || ok || e != want {
		t.Errorf("%s of %v to %d: %d, %d, %v, %d, not error %d", c.name, p, id, u, v, ok, e, want)
	}
	if want == api.ErrArg && a.Used() != used {
		t.Errorf("%s of %v to %d: made something", c.name, p, id)
	}
}

// ofRefused fails where Of tells another error than that, or a treap beside it.
func ofRefused(t *testing.T, a *arena.Arena, want api.Errno, l ...api.Pair) {
	t.Helper()
	if id, e := Of(a, l...); id != 0 || e != want {
		t.Errorf("Of(%v): %d, %d, not error %d", l, id, e, want)
	}
}

// P5.1, P5.2: the chapter's example: Of(), Put(1 2): one node.
func TestExample(t *testing.T) {
	a := arena.New(9)
	none, e := Of(a)
	if none != 0 || e != api.OK || a.Used() != 0 {
		t.Errorf("Of(): %d, %d", none, e)
	}
	p := api.Pair{Key: 1, Val: 2}
	id, v, ok, e := Put(a, none, p)
	if v != 0 || ok || e != api.OK {
		t.Errorf("Put: %d, %v, %d", v, ok, e)
	}
	n, there := node.Get(a, id)
	if !there || n != (node.Node{Pair: p, Size: 1, High: 1}) {
		t.Errorf("the node: %v, %v", n, there)
	}
}

// P5.1: treaps of all small sizes, and some greater ones: keys below, between
// and above those that are there, and each one that is there.
func TestKeys(t *testing.T) {
	for n := range 40 {
		keysOf(t, pairs(-20, 3, n))
	}
	keysOf(t, pairs(7, 1, 100))
	keysOf(t, pairs(-1000, 11, 200))
}

// keysOf puts and adds keys to the treap of those pairs, each to that one.
func keysOf(t *testing.T, l []api.Pair) {
	t.Helper()
	keys := []int{math.MinInt, math.MinInt + 1, 0, math.MaxInt - 1, math.MaxInt}
	for _, p := range l {
		keys = append(keys, p.Key-1, p.Key, p.Key+1)
	}
	for _, c := range both() {
		a := arena.New(math.MaxInt)
		id := built(t, a, l)
		for _, key := range keys {
			one(t, a, c, id, l, api.Pair{Key: key, Val: 1000})
		}
	}
}

// P5.1: keys and values at the ends of int.
func TestEnds(t *testing.T) {
	ends := []int{math.MinInt, math.MinInt + 1, -1, 0, 1, math.MaxInt - 1, math.MaxInt}
	for _, first := range ends {
		for _, second := range ends {
			for _, third := range ends {
				for _, c := range both() {
					a := arena.New(50)
					var l []api.Pair
					id := 0
					for _, p := range []api.Pair{{Key: first, Val: third}, {Key: second, Val: first}, {Key: third, Val: second}} {
						id = one(t, a, c, id, l, p)
						if _, there := valueOf(l, p.Key); !there || c.name == "Put" {
							l = putInto(l, p)
						}
					}
				}
			}
		}
	}
}

// P5.1: a value of 0 is told as there, and is put as any other one.
func TestValueZero(t *testing.T) {
	l := []api.Pair{{Key: -2}, {Key: 0}, {Key: 2}}
	for _, c := range both() {
		a := arena.New(50)
		id := built(t, a, l)
		for key := -3; key < 4; key++ {
			one(t, a, c, id, l, api.Pair{Key: key})
			one(t, a, c, id, l, api.Pair{Key: key, Val: 7})
		}
	}
}

// P5.1, P5.3: long rows of calls, each on one of the treaps that came of those
// before: all treaps stay as they were, to the end.
func TestRows(t *testing.T) {
	type was struct {
		id   int
		says map[int]int
	}
	for seed := range 40 {
		a := arena.New(math.MaxInt)
		next := rule(seed)
		all := []was{{0, map[int]int{}}}
		for range 150 {
			from := all[len(all)-1-int(uint(next())%uint(min(len(all), 1+seed%4)))]
			p := api.Pair{Key: next() >> (57 + seed%5), Val: next()}
			c := both()[uint(next())%2]
			id := one(t, a, c, from.id, sorted(from.says), p)
			says := maps.Clone(from.says)
			if _, there := says[p.Key]; !there || c.name == "Put" {
				says[p.Key] = p.Val
			}
			all = append(all, was{id, says})
		}
		for _, w := range all {
			if !isOf(a, w.id, sorted(w.says)) {
				t.Errorf("row %d: treap %d is not as it was", seed, w.id)
			}
		}
	}
}

// odd is an arena with a node (1), a cell that holds the node's number (2), and
// records of other kinds that say what the node says (3, 4), with that much room
// left; and the numbers in it that no treap has.
func odd(t *testing.T, room int) (*arena.Arena, []int) {
	t.Helper()
	a := arena.New(4 + room)
	makeOne(t, a, api.Pair{Key: 5, Val: 6}, 0, 0)
	if id, e := a.Cell(1); id != 2 || e != api.OK {
		t.Fatalf("the cell: %d, %d", id, e)
	}
	byHand(t, a, 3, 2, 5, 6, 0, 0, 1, 1)
	byHand(t, a, 4, math.MaxInt, 5, 6, 0, 0, 1, 1)
	return a, []int{math.MinInt, -4, -1, 2, 3, 4, 5, 6, 20, 21, api.MaxArena, api.MaxArena + 1, math.MaxInt}
}

// P5.1: what is neither 0 nor a node, whether or not there is room (R4).
func TestNoTreap(t *testing.T) {
	for _, room := range []int{0, 1, 30} {
		a, wrong := odd(t, room)
		for _, c := range both() {
			for _, id := range wrong {
				for _, key := range []int{math.MinInt, 0, 4, 5, 6, math.MaxInt} {
					refused(t, a, c, id, api.Pair{Key: key, Val: 8}, api.ErrArg)
				}
			}
		}
		if a.Used() != 4 || a.Steps() != 0 {
			t.Errorf("%d records, %d steps", a.Used(), a.Steps())
		}
	}
}

// P5.1: a node among cells and records of other kinds, and nothing at all.
func TestAmongOthers(t *testing.T) {
	l := []api.Pair{{Key: 5, Val: 6}}
	for _, c := range both() {
		a, _ := odd(t, 60)
		for key := range 9 {
			one(t, a, c, 1, l, api.Pair{Key: key, Val: 9})
			one(t, a, c, 0, nil, api.Pair{Key: key, Val: 9})
		}
	}
}

// P5.1, P5.2: no arena.
func TestNil(t *testing.T) {
	for _, c := range both() {
		for _, id := range []int{math.MinInt, -1, 0, 1, 2, math.MaxInt} {
			refused(t, nil, c, id, api.Pair{}, api.ErrArg)
			refused(t, nil, c, id, api.Pair{Key: 1, Val: 2}, api.ErrArg)
		}
	}
	ofRefused(t, nil, api.ErrArg)
	ofRefused(t, nil, api.ErrArg, api.Pair{})
	ofRefused(t, nil, api.ErrArg, pairs(1, 1, 3)...)
}

// P5.1: an arena that is full from the beginning, or never had room: nothing is
// added, but Add tells of a key that is there.
func TestFull(t *testing.T) {
	for n := range 12 {
		l := pairs(-3, 2, n)
		a := arena.New(n)
		id := built(t, a, l)
		for key := -4; key < 2*n; key++ {
			p := api.Pair{Key: key, Val: 1000}
			refused(t, a, call{"Put", Put}, id, p, api.ErrFull)
			if _, there := valueOf(l, key); there {
				one(t, a, call{"Add", Add}, id, l, p)
			} else {
				refused(t, a, call{"Add", Add}, id, p, api.ErrFull)
			}
		}
		if !isOf(a, id, l) {
			t.Errorf("the treap of %v is not as it was", l)
		}
	}
	for _, a := range []*arena.Arena{arena.New(0), {}} {
		for _, c := range both() {
			refused(t, a, c, 0, api.Pair{Key: 1}, api.ErrFull)
			refused(t, a, c, 1, api.Pair{Key: 1}, api.ErrArg)
		}
	}
}

// P5.1, P5.3: an arena that becomes full on the way: with whatever room there
// is, all is done or nothing; with 2 High + 2 it is done.
func TestFullOnTheWay(t *testing.T) {
	for _, n := range []int{0, 1, 2, 3, 5, 8, 20, 60} {
		l := pairs(0, 2, n)
		for _, c := range both() {
			for key := -1; key <= 2*n; key++ {
				fullAt(t, c, l, api.Pair{Key: key, Val: 1000})
			}
		}
	}
}

// fullAt puts or adds a pair with less room than it takes, with just that, and
// with 2 High + 2.
func fullAt(t *testing.T, c call, l []api.Pair, p api.Pair) {
	t.Helper()
	wide, id := arenaOf(t, l, 1000)
	one(t, wide, c, id, l, p)
	takes := wide.Used() - len(l)
	for room := range takes {
		a, id := arenaOf(t, l, room)
		refused(t, a, c, id, p, api.ErrFull)
		if !isOf(a, id, l) || a.Steps() != 0 {
			t.Errorf("%s of %v with room for %d: %v is not as it was", c.name, p, room, l)
		}
	}
	for _, room := range []int{takes, 2*look.High(wide, id) + 2} {
		a, id := arenaOf(t, l, room)
		one(t, a, c, id, l, p)
	}
}

// P5.3: treaps that grow by one pair after the other never take more than
// 2 High + 2, whatever the keys are.
func TestRoom(t *testing.T) {
	for seed := range 20 {
		next := rule(seed)
		var l []api.Pair
		for range 120 {
			p := api.Pair{Key: next() >> (seed * 3), Val: next()}
			for _, c := range both() {
				high := look.High(arenaOf(t, l, 0))
				a, id := arenaOf(t, l, 2*high+2)
				one(t, a, c, id, l, p)
			}
			l = putInto(l, p)
		}
	}
}

// arenaOf is an arena with the treap of those pairs and that much room left.
func arenaOf(t *testing.T, l []api.Pair, room int) (*arena.Arena, int) {
	t.Helper()
	a := arena.New(len(l) + room)
	return a, built(t, a, l)
}

// P5.2: of one pair, and of more: the treap of all of them.
func TestOf(t *testing.T) {
	for n := range 60 {
		a := arena.New(math.MaxInt)
		l := pairs(-40, 3, n)
		id, e := Of(a, l...)
		if e != api.OK || !isOf(a, id, l) || a.Steps() != 0 {
			t.Errorf("Of(%v): %d, %d", l, id, e)
		}
	}
}

// P5.2: where a key stands twice, or more often, the last one counts.
func TestOfTwice(t *testing.T) {
	for _, x := range []struct{ l, want []api.Pair }{
		{[]api.Pair{{Key: 1, Val: 1}, {Key: 1, Val: 2}}, []api.Pair{{Key: 1, Val: 2}}},
		{[]api.Pair{{Key: 1, Val: 2}, {Key: 1, Val: 1}, {Key: 1, Val: 0}}, []api.Pair{{Key: 1}}},
		{
			[]api.Pair{{Key: 4, Val: 1}, {Key: 3, Val: 2}, {Key: 5, Val: 3}, {Key: 4, Val: 4}},
			[]api.Pair{{Key: 3, Val: 2}, {Key: 4, Val: 4}, {Key: 5, Val: 3}},
		},
		{
			[]api.Pair{{Key: 4, Val: 1}, {Key: 3, Val: 2}, {Key: 4, Val: 4}, {Key: 3, Val: 9}, {Key: 3, Val: 8}},
			[]api.Pair{{Key: 3, Val: 8}, {Key: 4, Val: 4}},
		},
	} {
		a := arena.New(50)
		if id, e := Of(a, x.l...); e != api.OK || !isOf(a, id, x.want) {
			t.Errorf("Of(%v): %d, %d, not the treap of %v", x.l, id, e, x.want)
		}
	}
}

// P5.2: the same as Puts in that order, record for record.
func TestOfIsPuts(t *testing.T) {
	for seed := range 30 {
		next := rule(seed)
		var l []api.Pair
		for range seed * 2 {
			l = append(l, api.Pair{Key: next() >> 59, Val: next()})
		}
		a, b := arena.New(5000), arena.New(5000)
		id, e := Of(a, l...)
		u := 0
		for _, p := range l {
			u, _, _, _ = Put(b, u, p)
		}
		if id != u || e != api.OK || a.Used() != b.Used() {
			t.Errorf("Of(%v): %d, %d of %d; Puts: %d of %d", l, id, e, a.Used(), u, b.Used())
		}
	}
}

// P5.2: the first error ends it: nothing comes beside it.
func TestOfFull(t *testing.T) {
	l := []api.Pair{{Key: 9, Val: 1}, {Key: 2, Val: 2}, {Key: 5, Val: 3}, {Key: 2, Val: 4}, {Key: 7, Val: 5}}
	wide := arena.New(100)
	if _, e := Of(wide, l...); e != api.OK {
		t.Fatalf("Of: %d", e)
	}
	for room := range wide.Used() {
		ofRefused(t, arena.New(room), api.ErrFull, l...)
	}
	just := arena.New(wide.Used())
	if id, e := Of(just, l...); e != api.OK || just.Room() != 0 || !isOf(just, id, []api.Pair{{Key: 2, Val: 4}, {Key: 5, Val: 3}, {Key: 7, Val: 5}, {Key: 9, Val: 1}}) {
		t.Errorf("with just enough room: %d, %d", id, e)
	}
	for _, a := range []*arena.Arena{arena.New(0), {}, just} {
		ofRefused(t, a, api.ErrFull, api.Pair{})
		if id, e := Of(a); id != 0 || e != api.OK {
			t.Errorf("Of() where there is no room: %d, %d", id, e)
		}
	}
}

// R4: a pair that comes after the first error isn't put, though it would take
// less room.
func TestOfEnds(t *testing.T) {
	l := pairs(0, 1, 30)
	for room := range 60 {
		a := arena.New(room)
		n := 0
		for e := api.OK; e == api.OK && n < len(l); n++ {
			_, e = Of(arena.New(room), l[:n+1]...)
		}
		used := arena.New(room)
		Of(used, l[:n]...)
		ofRefused(t, a, api.ErrFull, l...)
		if a.Used() != used.Used() {
			t.Errorf("room for %d: %d made, %d when the first error came", room, a.Used(), used.Used())
		}
	}
}

// P5.2: as many pairs of one key as an arena has room for, and one more.
func TestOfOneKey(t *testing.T) {
	l := make([]api.Pair, api.MaxArena)
	for i := range l {
		l[i] = api.Pair{Key: 3, Val: i}
	}
	a := arena.New(api.MaxArena)
	if id, e := Of(a, l...); e != api.OK || !isOf(a, id, l[len(l)-1:]) {
		t.Errorf("%d pairs of one key: %d, %d", len(l), id, e)
	}
	ofRefused(t, arena.New(api.MaxArena), api.ErrFull, append(l, api.Pair{Key: 4})...)
}

// R2: a list that is handed in is neither changed nor kept, and what lies
// behind its length isn't read.
func TestOfMemory(t *testing.T) {
	a := arena.New(500)
	whole := []api.Pair{{Key: 7, Val: 1}, {Key: 3, Val: 2}, {Key: 7, Val: 3}, {Key: 5, Val: 4}, {Key: 9, Val: 5}}
	was := slices.Clone(whole)
	id, e := Of(a, whole[:4]...)
	if e != api.OK || !slices.Equal(whole, was) {
		t.Errorf("Of: error %d, %v", e, whole)
	}
	clear(whole)
	if !isOf(a, id, []api.Pair{{Key: 3, Val: 2}, {Key: 5, Val: 4}, {Key: 7, Val: 3}}) {
		t.Error("the treap is another one after its list was changed")
	}
}

// P5.3: pairs in every order there is, put one by one, or added, are the same
// treap, node by node; so are those that came with other values first.
func TestAllOrders(t *testing.T) {
	for _, l := range [][]api.Pair{
		pairs(1, 1, 6),
		{{Key: math.MinInt, Val: 1}, {Key: -1, Val: 2}, {Key: 0, Val: 3}, {Key: 1, Val: 4}, {Key: math.MaxInt, Val: 5}},
		{{Key: 2, Val: 5}, {Key: 30, Val: 5}, {Key: 31, Val: 5}, {Key: 400, Val: 5}, {Key: 5000, Val: 5}, {Key: 5001, Val: 5}},
	} {
		orders(l, 0, func(m []api.Pair) {
			a := arena.New(200)
			put, added, again := 0, 0, 0
			for _, p := range m {
				put, _, _, _ = Put(a, put, p)
				added, _, _, _ = Add(a, added, p)
				again, _, _, _ = Put(a, again, api.Pair{Key: p.Key, Val: p.Val + 1})
			}
			for _, p := range m {
				again, _, _, _ = Put(a, again, p)
			}
			if !isOf(a, put, l) || !isOf(a, added, l) || !isOf(a, again, l) {
				t.Errorf("not the treap: %v", m)
			}
		})
	}
}

// orders goes through all orders of a list from a place on.
func orders(l []api.Pair, from int, do func([]api.Pair)) {
	if from == len(l) {
		do(l)
		return
	}
	m := slices.Clone(l)
	for i := from; i < len(m); i++ {
		m[from], m[i] = m[i], m[from]
		orders(m, from+1, do)
	}
}

// P5.3: many pairs, rising, falling and mixed.
func TestManyOrders(t *testing.T) {
	for seed := range 20 {
		next := rule(seed)
		m := map[int]int{}
		for range 200 {
			m[next()>>(seed*2)] = next()
		}
		l := sorted(m)
		falling, mixed := slices.Clone(l), slices.Clone(l)
		slices.Reverse(falling)
		for i := range mixed {
			k := int(uint(next()) % uint(i+1))
			mixed[i], mixed[k] = mixed[k], mixed[i]
		}
		a := arena.New(math.MaxInt)
		for _, o := range [][]api.Pair{l, falling, mixed} {
			if id, e := Of(a, o...); e != api.OK || !isOf(a, id, l) {
				t.Errorf("seed %d: %d, %d: not the treap", seed, id, e)
			}
		}
	}
}

// R6: a treap is one of its own arena: what is done in another one doesn't
// matter.
func TestTwoArenas(t *testing.T) {
	l, m := pairs(1, 2, 9), pairs(-30, 5, 4)
	a, id := arenaOf(t, l, 60)
	b, other := arenaOf(t, m, 60)
	for key := range 9 {
		one(t, a, call{"Put", Put}, id, l, api.Pair{Key: key, Val: 1})
		one(t, b, call{"Add", Add}, other, m, api.Pair{Key: key, Val: 2})
	}
	c := arena.New(20)
	refused(t, c, call{"Put", Put}, id, api.Pair{}, api.ErrArg)
	refused(t, c, call{"Add", Add}, other, api.Pair{}, api.ErrArg)
}

// Layer 3's words: what hangs on a record that was made by hand, and isn't a
// node, or hasn't a lower number, counts as nothing, and does so in what comes
// of it, whose numbers are higher.
func TestHung(t *testing.T) {
	_, wrong := odd(t, 9)
	for _, hung := range append(wrong, 7) {
		for _, c := range both() {
			for key := 48; key < 53; key++ {
				a, _ := odd(t, 9)
				byHand(t, a, 5, 1, 50, 60, hung, hung, 1, 1)
				makeOne(t, a, api.Pair{Key: 50, Val: 1}, 0, 0)
				makeOne(t, a, api.Pair{Key: 50, Val: 2}, 0, 0)
				p := api.Pair{Key: key, Val: 9}
				u, v, ok, e := c.do(a, 5, p)
				want := putInto([]api.Pair{{Key: 50, Val: 60}}, p)
				if c.name == "Add" && key == 50 {
					if u != 5 || v != 60 || !ok || e != api.OK {
						t.Errorf("hung %d: Add of what is there: %d, %d, %v, %d", hung, u, v, ok, e)
					}
					continue
				}
				n, _ := node.Get(a, u)
				if e != api.OK || ok != (key == 50) || ok && v != 60 || n.High != len(want) {
					t.Errorf("hung %d: %s of %d: %d, %v, %d", hung, c.name, key, v, ok, e)
				}
				for _, q := range want {
					if v, ok := look.Get(a, u, q.Key); v != q.Val || !ok || look.Size(a, u) != len(want) {
						t.Errorf("hung %d: %s of %d: %d has %d, %v", hung, c.name, key, q.Key, v, ok)
					}
				}
			}
		}
	}
}

// P5.1: records that say anything and hang on one another in rings, among cells
// and other records, with much room and with little: every call ends, without a
// panic, and tells one error at most, and nothing beside it; what was there
// stays.
func TestRings(t *testing.T) {
	for seed := range 3000 {
		next := rule(seed)
		in := func(lo, hi int) int { return lo + int(uint(next())%uint(hi-lo)) }
		many := in(1, 9)
		a := arena.New(many + in(0, 12)*in(0, 12))
		for id := 1; id <= many; id++ {
			if kind := in(0, 8); kind == 0 {
				a.Cell(in(-2, many+3))
			} else {
				kind = max(1, kind-5)
				byHand(t, a, id, kind, in(-3, 8), next(), in(-2, many+4), in(-2, many+4), next()>>in(0, 63), next()>>in(0, 63))
			}
		}
		was := said(a, many)
		for id := -1; id <= many+1; id++ {
			for key := -4; key < 9; key++ {
				for _, c := range both() {
					ends(t, a, c, id, api.Pair{Key: key, Val: next()})
				}
			}
		}
		if !slices.Equal(was, said(a, many)) || a.Steps() != 0 {
			t.Errorf("seed %d: what was there is not as it was", seed)
		}
	}
}

// said is what the first records say.
func said(a *arena.Arena, many int) []int {
	var l []int
	for id := 1; id <= many; id++ {
		l = append(l, a.Kind(id))
		for i := range api.MaxVals {
			l = append(l, a.Val(id, i))
		}
	}
	return l
}

// ends fails where a call on whatever tells what no call may tell.
func ends(t *testing.T, a *arena.Arena, c call, id int, p api.Pair) {
	t.Helper()
	full := a.Room() == 0
	isTreap := id == 0 || a.Kind(id) == node.Kind
	u, v, ok, e := c.do(a, id, p)
	switch {
	case e != api.OK && (u != 0 || v != 0 || ok):
		t.Errorf("%s of %v to %d: %d, %d, %v beside error %d", c.name, p, id, u, v, ok, e)
	case !isTreap && e != api.ErrArg, isTreap && e == api.ErrArg:
		t.Errorf("%s of %v to %d: error %d", c.name, p, id, e)
	case c.name == "Put" && isTreap && full && e != api.ErrFull:
		t.Errorf("Put of %v to %d where there is no room: error %d", p, id, e)
	case e == api.OK && (a.Kind(u) != node.Kind || !ok && v != 0):
		t.Errorf("%s of %v to %d: %d, %d, %v", c.name, p, id, u, v, ok)
	}
}

// chain is a treap by hand whose way to one side (-1: left) is as long as that;
// keys beyond 0 on that side are those that are not there.
func chain(t *testing.T, many, side int) (*arena.Arena, int) {
	t.Helper()
	a := arena.New(math.MaxInt)
	id := 0
	for i := range many {
		p := api.Pair{Key: -side * i, Val: i}
		if side < 0 {
			id = makeOne(t, a, p, id, 0)
		} else {
			id = makeOne(t, a, p, 0, id)
		}
	}
	return a, id
}

// P5.1: ways down as long as an arena has room for, and longer ones: the new
// pair comes to their end, or above all of them.
func TestLong(t *testing.T) {
	const many = api.MaxArena/2 - 1
	for _, side := range []int{-1, 1} {
		least := uint64(math.MaxUint64)
		for i := range many + 1 {
			least = min(least, mix.Prio(-side*i))
		}
		under, over := side, side
		for mix.Prio(under) >= least {
			under += side
		}
		for !mix.Above(over, -side*many) || !mix.Above(over, -side*(many-1)) {
			over += side
		}
		for _, p := range []api.Pair{{Key: under, Val: 7}, {Key: over, Val: 7}} {
			a, id := chain(t, many, side)
			u, _, ok, e := Put(a, id, p)
			v, there := look.Get(a, u, p.Key)
			if ok || e != api.OK || v != 7 || !there || look.Size(a, u) != many+1 || a.Room() != 1 {
				t.Errorf("%v: %v, %d, %d, %v, room for %d", p, ok, e, v, there, a.Room())
			}
			for _, c := range both() {
				a, id := chain(t, many+1, side)
				refused(t, a, c, id, p, api.ErrFull)
			}
		}
	}
}
