package node

import (
	"math"
	"testing"

	"osier/api"
	"osier/arena"
)

// makeOne makes a node, and fails where it doesn't get that number.
func makeOne(t *testing.T, a *arena.Arena, want int, p api.Pair, left, right int) {
	t.Helper()
	if id, e := Make(a, p, left, right); id != want || e != api.OK {
		t.Fatalf("Make(%v, %d, %d): %d, %d, not %d", p, left, right, id, e, want)
	}
}

// refused fails where such a node is made, or anything of the arena changes.
func refused(t *testing.T, a *arena.Arena, left, right int, want api.Errno) {
	t.Helper()
	used, room := a.Used(), a.Room()
	if id, e := Make(a, api.Pair{Key: 7, Val: 8}, left, right); id != 0 || e != want {
		t.Errorf("Make of %d, %d: %d, %d, not error %d", left, right, id, e, want)
	}
	if a.Used() != used || a.Room() != room {
		t.Errorf("Make of %d, %d took room", left, right)
	}
}

// says fails where Get tells another node.
func says(t *testing.T, a *arena.Arena, id int, want Node) {
	t.Helper()
	if n, ok := Get(a, id); n != want || !ok {
		t.Fatalf("Get(%d): %v, %v, not %v", id, n, ok, want)
	}
}

// byHand makes a record, and fails where it doesn't get that number.
func byHand(t *testing.T, a *arena.Arena, want, kind int, vals ...int) {
	t.Helper()
	if id, e := a.Make(kind, vals...); id != want || e != api.OK {
		t.Fatalf("a record of kind %d: %d, %d, not %d", kind, id, e, want)
	}
}

// node is a node of those fields.
func node(key, val, left, right, size, high int) Node {
	return Node{Pair: api.Pair{Key: key, Val: val}, Left: left, Right: right, Size: size, High: high}
}

// odd is an arena with a node (1), a cell that holds the node's number (2), and
// records of other kinds that say what the node says (3, 4), with some room;
// and the numbers in it that no treap has.
func odd(t *testing.T) (*arena.Arena, []int) {
	t.Helper()
	a := arena.New(6)
	makeOne(t, a, 1, api.Pair{Key: 5, Val: 6}, 0, 0)
	if id, e := a.Cell(1); id != 2 || e != api.OK {
		t.Fatalf("the cell: %d, %d", id, e)
	}
	byHand(t, a, 3, 2, 5, 6, 0, 0, 1, 1)
	byHand(t, a, 4, math.MaxInt, 5, 6, 0, 0, 1, 1)
	return a, []int{math.MinInt, -4, -1, 2, 3, 4, 5, 6, 7, api.MaxArena, api.MaxArena + 1, math.MaxInt}
}

// P3.1: the chapter's example.
func TestExample(t *testing.T) {
	a := arena.New(1)
	makeOne(t, a, 1, api.Pair{Key: 3, Val: 4}, 0, 0)
	says(t, a, 1, node(3, 4, 0, 0, 1, 1))
}

// P3.1: sizes are added up, the greater height counts, on whichever side it is;
// what was made stays as it was.
func TestMake(t *testing.T) {
	a := arena.New(20)
	want := []Node{
		node(5, -6, 0, 0, 1, 1),
		node(9, 0, 0, 0, 1, 1),
		node(7, 1, 1, 2, 3, 2),
		node(-4, 2, 3, 0, 4, 3),
		node(-4, 2, 0, 3, 4, 3),
		node(0, 0, 5, 1, 6, 4),
		node(0, 0, 1, 5, 6, 4),
		node(1, 1, 5, 5, 9, 4), // what hangs on both sides counts twice
		node(2, 3, 8, 7, 16, 5),
		node(2, 3, 0, 0, 1, 1),
	}
	for i, n := range want {
		makeOne(t, a, i+1, n.Pair, n.Left, n.Right)
	}
	for i, n := range want {
		says(t, a, i+1, n)
	}
	if a.Used() != len(want) || a.Steps() != 0 {
		t.Errorf("%d records, %d steps", a.Used(), a.Steps())
	}
}

// P3.1: numbers are those of the arena: cells and other records take theirs.
func TestNumbers(t *testing.T) {
	a, _ := odd(t)
	makeOne(t, a, 5, api.Pair{Key: 1}, 1, 0)
	makeOne(t, a, 6, api.Pair{Key: 1}, 0, 5)
	says(t, a, 5, node(1, 0, 1, 0, 2, 2))
	says(t, a, 6, node(1, 0, 0, 5, 3, 3))
}

// The chapter's words: a node is a record of kind 1: key, value, left, right,
// size, height, and no more.
func TestRecord(t *testing.T) {
	a := arena.New(9)
	makeOne(t, a, 1, api.Pair{Key: 40, Val: 50}, 0, 0)
	makeOne(t, a, 2, api.Pair{Key: 41, Val: 51}, 1, 1)
	makeOne(t, a, 3, api.Pair{Key: 42, Val: 52}, 1, 2)
	if Kind != 1 || a.Kind(3) != 1 {
		t.Errorf("kinds %d, %d", Kind, a.Kind(3))
	}
	for i, v := range []int{42, 52, 1, 2, 5, 3, 0, 0, 0, 0, 0, 0} {
		if a.Val(3, i) != v {
			t.Errorf("value %d: %d, not %d", i, a.Val(3, i), v)
		}
	}
}

// P3.1: no arena.
func TestNil(t *testing.T) {
	for _, id := range []int{math.MinInt, -1, 0, 1, math.MaxInt} {
		refused(t, nil, 0, id, api.ErrArg)
		refused(t, nil, id, 0, api.ErrArg)
		if n, ok := Get(nil, id); ok || n != (Node{}) {
			t.Errorf("Get(%d): %v, %v", id, n, ok)
		}
	}
}

// P3.1: what is neither 0 nor a node may not hang on a node, on neither side.
func TestWrong(t *testing.T) {
	a, wrong := odd(t)
	for _, id := range wrong {
		for _, other := range append(wrong, 0, 1) {
			refused(t, a, id, other, api.ErrArg)
			refused(t, a, other, id, api.ErrArg)
		}
	}
	makeOne(t, a, 5, api.Pair{}, 1, 1)
	refused(t, a, 6, 5, api.ErrArg)
	refused(t, a, 5, 6, api.ErrArg)
	if a.Steps() != 0 {
		t.Errorf("%d steps", a.Steps())
	}
}

// P3.1: in a full arena the arena's error is told, but after ErrArg (R4).
func TestFull(t *testing.T) {
	a, wrong := odd(t)
	makeOne(t, a, 5, api.Pair{}, 1, 0)
	makeOne(t, a, 6, api.Pair{}, 0, 1)
	says(t, a, 6, node(0, 0, 0, 1, 2, 2))
	for _, id := range []int{0, 1, 5, 6} {
		refused(t, a, id, 0, api.ErrFull)
		refused(t, a, 0, id, api.ErrFull)
		refused(t, a, id, id, api.ErrFull)
		for _, none := range wrong {
			if none == 5 || none == 6 {
				continue
			}
			refused(t, a, id, none, api.ErrArg)
			refused(t, a, none, id, api.ErrArg)
		}
	}
}

// P3.1: an arena that never had room.
func TestNoRoom(t *testing.T) {
	for _, a := range []*arena.Arena{arena.New(0), {}} {
		refused(t, a, 0, 0, api.ErrFull)
		refused(t, a, 1, 0, api.ErrArg)
		refused(t, a, 0, 1, api.ErrArg)
	}
}

// P3.1: of what is no node Get tells nothing, whatever its values are.
func TestGetNone(t *testing.T) {
	a, wrong := odd(t)
	for _, id := range append(wrong, 0) {
		if n, ok := Get(a, id); ok || n != (Node{}) {
			t.Errorf("Get(%d): %v, %v", id, n, ok)
		}
	}
	if a.Used() != 4 || a.Steps() != 0 {
		t.Errorf("%d records, %d steps", a.Used(), a.Steps())
	}
}

// P3.1: a record of kind 1 is a node, whoever made it and however many values
// it has: those that it lacks are 0, those beyond a node's are not told.
func TestFewOrMany(t *testing.T) {
	a := arena.New(20)
	vals := []int{10, 20, 30, 40, 50, 60, 70, 80, 90, 100, 110, 120}
	want := Node{}
	for i := range len(vals) + 1 {
		byHand(t, a, i+1, 1, vals[:i]...)
		switch i {
		case 1:
			want.Key = 10
		case 2:
			want.Val = 20
		case 3:
			want.Left = 30
		case 4:
			want.Right = 40
		case 5:
			want.Size = 50
		case 6:
			want.High = 60
		}
		says(t, a, i+1, want)
	}
}

// P3.1: a record that was made by hand says what it says: left and right as
// they stand there, also those that count as nothing, and size and height too,
// though nothing hangs on it that makes them up.
func TestByHand(t *testing.T) {
	a := arena.New(20)
	byHand(t, a, 1, 1, 4, 5, 1, 2, 8, 9) // itself, and the next one
	byHand(t, a, 2, 1, 4, 5, 9)          // what is not there yet
	byHand(t, a, 3, 1, 4, 5, -1, math.MinInt, -7, -8)
	byHand(t, a, 4, 1, 4, 5, math.MaxInt, 4, 0, 3)
	byHand(t, a, 5, 1, 4, 5, 1, 4, 2, 2)
	byHand(t, a, 6, 1)
	for i, n := range []Node{
		node(4, 5, 1, 2, 8, 9),
		node(4, 5, 9, 0, 0, 0),
		node(4, 5, -1, math.MinInt, -7, -8),
		node(4, 5, math.MaxInt, 4, 0, 3),
		node(4, 5, 1, 4, 2, 2),
		{},
	} {
		says(t, a, i+1, n)
	}
}

// P3.1: what was made by hand may hang on a node, by what it says of itself; of
// nothing size and height are 0, and one that says less is the lower one.
func TestOnByHand(t *testing.T) {
	a := arena.New(40)
	byHand(t, a, 1, 1, 4, 5, 1, 9, 8, 9) // nothing that counts hangs on it
	byHand(t, a, 2, 1, 4, 5)
	byHand(t, a, 3, 1, 4, 5, 0, 0, -7, -8)
	for i, n := range []Node{
		node(1, 1, 1, 0, 9, 10),
		node(1, 1, 0, 1, 9, 10),
		node(1, 1, 2, 2, 1, 1),
		node(1, 1, 1, 2, 9, 10),
		node(1, 1, 3, 0, -6, 1),
		node(1, 1, 0, 3, -6, 1),
		node(1, 1, 3, 3, -13, -7),
		node(1, 1, 3, 1, 2, 10),
	} {
		makeOne(t, a, i+4, n.Pair, n.Left, n.Right)
		says(t, a, i+4, n)
	}
}

// P3.1: keys and values at the ends of int.
func TestEnds(t *testing.T) {
	a := arena.New(9)
	id := 0
	for _, key := range []int{math.MinInt, 0, math.MaxInt} {
		for _, val := range []int{math.MinInt, -1, math.MaxInt} {
			id++
			makeOne(t, a, id, api.Pair{Key: key, Val: val}, 0, 0)
			says(t, a, id, node(key, val, 0, 0, 1, 1))
		}
	}
}

// R1: a size doubles with each node that has the same treap on both sides; it
// is told up to the greatest int, and held there.
func TestDoubled(t *testing.T) {
	a := arena.New(70)
	size := 0
	for i := range 70 {
		if i < 63 {
			size = 2*size + 1
		}
		makeOne(t, a, i+1, api.Pair{Key: i}, i, i)
		says(t, a, i+1, node(i, 0, i, i, size, i+1))
	}
	if size != math.MaxInt {
		t.Errorf("63 times doubled: %d", size)
	}
}

// R1: no sum of what was made by hand goes round, nor is one held that need not
// be.
func TestNoRound(t *testing.T) {
	for _, x := range []struct{ l, r, size, high int }{
		{math.MaxInt, math.MaxInt, math.MaxInt, math.MaxInt},
		{math.MaxInt, 0, math.MaxInt, math.MaxInt},
		{math.MaxInt - 1, 0, math.MaxInt, math.MaxInt},
		{math.MaxInt - 2, 0, math.MaxInt - 1, math.MaxInt - 1},
		{math.MaxInt, -1, math.MaxInt, math.MaxInt},
		{math.MaxInt, -2, math.MaxInt - 1, math.MaxInt},
		{math.MaxInt, math.MinInt, 0, math.MaxInt},
		{math.MaxInt - 5, 4, math.MaxInt, math.MaxInt - 4},
		{math.MaxInt - 5, 5, math.MaxInt, math.MaxInt - 4},
		{math.MaxInt - 5, 3, math.MaxInt - 1, math.MaxInt - 4},
		{math.MinInt, math.MinInt, math.MinInt, math.MinInt + 1},
		{math.MinInt, 0, math.MinInt + 1, 1},
		{math.MinInt, -1, math.MinInt, 0},
		{math.MinInt, -2, math.MinInt, -1},
		{math.MinInt + 5, -5, math.MinInt + 1, -4},
		{math.MinInt + 5, -6, math.MinInt, -5},
		{math.MinInt + 5, -7, math.MinInt, -6},
		{-1, -1, -1, 0},
		{-1, 0, 0, 1},
	} {
		a := arena.New(9)
		byHand(t, a, 1, 1, 0, 0, 0, 0, x.l, x.l)
		byHand(t, a, 2, 1, 0, 0, 0, 0, x.r, x.r)
		makeOne(t, a, 3, api.Pair{}, 1, 2)
		says(t, a, 3, node(0, 0, 1, 2, x.size, x.high))
		makeOne(t, a, 4, api.Pair{}, 2, 1)
		says(t, a, 4, node(0, 0, 2, 1, x.size, x.high))
	}
}

// P3.2: neither left nor right; size, height and pair don't matter.
func TestLeaf(t *testing.T) {
	for _, x := range []struct {
		n    Node
		leaf bool
	}{
		{Node{}, true},
		{node(5, 6, 0, 0, 1, 1), true},
		{node(5, 6, 0, 0, 7, 8), true},
		{node(0, 0, 0, 0, -1, 0), true},
		{node(5, 6, 1, 0, 2, 2), false},
		{node(5, 6, 0, 1, 2, 2), false},
		{node(5, 6, 1, 2, 3, 2), false},
		{node(0, 0, 3, -3, 0, 0), false},
		{node(0, 0, -1, 0, 1, 1), false},
		{node(0, 0, 0, -1, 1, 1), false},
		{node(0, 0, math.MinInt, math.MinInt, 1, 1), false},
		{node(0, 0, 0, math.MaxInt, 1, 1), false},
	} {
		if x.n.Leaf() != x.leaf {
			t.Errorf("%v: %v", x.n, x.n.Leaf())
		}
	}
}

// P3.2: the key alone, and nothing but it.
func TestHolds(t *testing.T) {
	keys := []int{math.MinInt, -7, -1, 0, 1, 7, math.MaxInt}
	for _, key := range keys {
		for _, asked := range keys {
			if n := node(key, 7, 7, 7, 7, 7); n.Holds(asked) != (key == asked) {
				t.Errorf("%v holds %d: %v", n, asked, n.Holds(asked))
			}
		}
	}
}

// P3.2: what Get tells answers too, also of a record that was made by hand.
func TestLeafOfGet(t *testing.T) {
	a := arena.New(9)
	makeOne(t, a, 1, api.Pair{Key: 5}, 0, 0)
	makeOne(t, a, 2, api.Pair{Key: 6}, 1, 0)
	byHand(t, a, 3, 1, 7)
	byHand(t, a, 4, 1, 8, 0, 4)
	for id, leaf := range map[int]bool{1: true, 2: false, 3: true, 4: false} {
		if n, ok := Get(a, id); !ok || n.Leaf() != leaf || !n.Holds(id+4) || n.Holds(id) {
			t.Errorf("%d: %v", id, n)
		}
	}
}

// counted is size and height of a treap, found by going through it.
func counted(a *arena.Arena, t int) (size, high int) {
	n, ok := Get(a, t)
	if !ok {
		return 0, 0
	}
	ls, lh := counted(a, n.Left)
	rs, rh := counted(a, n.Right)
	return ls + rs + 1, max(lh, rh) + 1
}

// P3.3: whatever is hung on whatever, size and height are those of what hangs
// there, also after more has come.
func TestCounted(t *testing.T) {
	const many = 60
	for rule := range 40 {
		a := arena.New(many)
		seed := uint64(rule)
		below := func(n int) int {
			seed = seed*6364136223846793005 + 1442695040888963407
			return int(seed >> 33 % uint64(n))
		}
		for id := 1; id <= many; id++ {
			makeOne(t, a, id, api.Pair{Key: id}, below(id), below(id)/2)
		}
		for id := 1; id <= many; id++ {
			size, high := counted(a, id)
			if n, ok := Get(a, id); !ok || n.Size != size || n.High != high {
				t.Fatalf("rule %d, node %d: %v, not %d, %d", rule, id, n, size, high)
			}
		}
	}
}

// P3.3: a row of nodes, as long as an arena is: on either side.
func TestLong(t *testing.T) {
	for _, right := range []int{0, 1} {
		a := arena.New(math.MaxInt)
		for id := 1; id <= api.MaxArena; id++ {
			n := node(id, -id, (id-1)*(1-right), (id-1)*right, id, id)
			makeOne(t, a, id, n.Pair, n.Left, n.Right)
			says(t, a, id, n)
		}
		refused(t, a, api.MaxArena, 0, api.ErrFull)
		refused(t, a, api.MaxArena+1, 0, api.ErrArg)
	}
}

// R6: a node is one of its own arena, and says nothing of another one's.
func TestTwoArenas(t *testing.T) {
	a, b := arena.New(2), arena.New(2)
	makeOne(t, a, 1, api.Pair{Key: 1}, 0, 0)
	refused(t, b, 1, 0, api.ErrArg)
	makeOne(t, b, 1, api.Pair{Key: 2}, 0, 0)
	makeOne(t, b, 2, api.Pair{Key: 3}, 1, 1)
	says(t, a, 1, node(1, 0, 0, 0, 1, 1))
	says(t, b, 2, node(3, 0, 1, 1, 3, 2))
	refused(t, a, 2, 0, api.ErrArg)
}
