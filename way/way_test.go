package way

import (
	"math"
	"testing"

	"osier/api"
	"osier/arena"
	"osier/node"
)

// some is an arena with a node (1), a cell that holds its number (2), a record
// of another kind that says what the node says (3), and a node (4) on which
// those two hang.
func some(t *testing.T, left, right int) *arena.Arena {
	t.Helper()
	a := arena.New(5)
	_, e := a.Make(node.Kind, 5, 6, 0, 0, 1, 1)
	_, f := a.Cell(1)
	_, g := a.Make(node.Kind+1, 5, 6, 0, 0, 1, 1)
	_, h := a.Make(node.Kind, 7, 8, left, right, 9, 3)
	if e != api.OK || f != api.OK || g != api.OK || h != api.OK {
		t.Fatalf("errors %d, %d, %d, %d", e, f, g, h)
	}
	return a
}

func TestIsTreap(t *testing.T) {
	a := some(t, 0, 0)
	for id, want := range map[int]bool{math.MinInt: false, -1: false, 0: true, 1: true, 2: false, 3: false, 4: true, 5: false, math.MaxInt: false} {
		if IsTreap(a, id) != want {
			t.Errorf("%d: %v", id, !want)
		}
		if IsTreap(nil, id) {
			t.Errorf("%d of no arena", id)
		}
	}
}

// What counts as nothing is told as 0, on each side by itself.
func TestAt(t *testing.T) {
	for _, hung := range []int{math.MinInt, -1, 0, 1, 2, 3, 4, 5, math.MaxInt} {
		want := 0
		if hung == 1 {
			want = 1
		}
		says := node.Node{Pair: api.Pair{Key: 7, Val: 8}, Size: 9, High: 3}
		left, right := says, says
		left.Left, right.Right = want, want
		if n, ok := At(some(t, hung, 0), 4); n != left || !ok {
			t.Errorf("left %d: %v, %v", hung, n, ok)
		}
		if n, ok := At(some(t, 0, hung), 4); n != right || !ok {
			t.Errorf("right %d: %v, %v", hung, n, ok)
		}
	}
	for _, id := range []int{-1, 0, 2, 3, 5} {
		if n, ok := At(some(t, 1, 1), id); n != (node.Node{}) || ok {
			t.Errorf("%d: %v, %v", id, n, ok)
		}
	}
}

// A later node hangs on an earlier one that was made by hand: it has no lower
// number, and counts as nothing.
func TestAtLater(t *testing.T) {
	a := some(t, 5, 5)
	if id, e := node.Make(a, api.Pair{}, 0, 0); id != 5 || e != api.OK {
		t.Fatalf("the later one: %d, %d", id, e)
	}
	if n, ok := At(a, 4); n.Left != 0 || n.Right != 0 || !ok {
		t.Errorf("%v, %v", n, ok)
	}
}

func TestMake(t *testing.T) {
	a := some(t, 0, 0)
	p := api.Pair{Key: 1, Val: 2}
	for _, e := range []api.Errno{api.ErrArg, api.ErrFull, api.ErrNone, api.ErrState} {
		if id, f := Make(a, p, 1, 4, e); id != 0 || f != e || a.Used() != 4 {
			t.Errorf("behind error %d: %d, %d", e, id, f)
		}
	}
	if id, e := Make(a, p, 2, 0, api.OK); id != 0 || e != api.ErrArg {
		t.Errorf("of a cell: %d, %d", id, e)
	}
	id, e := Make(a, p, 1, 4, api.OK)
	n, _ := node.Get(a, id)
	if e != api.OK || n != (node.Node{Pair: p, Left: 1, Right: 4, Size: 11, High: 4}) {
		t.Errorf("%d, %d: %v", id, e, n)
	}
	if id, e := Make(a, p, 0, 0, api.OK); id != 0 || e != api.ErrFull {
		t.Errorf("where there is no room: %d, %d", id, e)
	}
}

// three is an arena with the nodes 10 (1), 30 (2) and 20 (3), on which those two
// hang, and that much room left.
func three(t *testing.T, room int) *arena.Arena {
	t.Helper()
	a := arena.New(3 + room)
	for _, n := range [][3]int{{10, 0, 0}, {30, 0, 0}, {20, 1, 2}} {
		if _, e := node.Make(a, api.Pair{Key: n[0]}, n[1], n[2]); e != api.OK {
			t.Fatalf("%d: error %d", n[0], e)
		}
	}
	return a
}

// sized is the key and the size of a treap's topmost node.
func sized(a *arena.Arena, t int) [2]int {
	n, _ := node.Get(a, t)
	return [2]int{n.Key, n.Size}
}

// Both parts, on each way down; just the way is copied.
func TestPart(t *testing.T) {
	for _, x := range []struct {
		key, takes  int
		left, right [2]int
	}{
		{9, 2, [2]int{}, [2]int{20, 3}},
		{10, 2, [2]int{}, [2]int{20, 3}},
		{11, 2, [2]int{10, 1}, [2]int{20, 2}},
		{20, 2, [2]int{10, 1}, [2]int{20, 2}},
		{21, 2, [2]int{20, 2}, [2]int{30, 1}},
		{30, 2, [2]int{20, 2}, [2]int{30, 1}},
		{31, 2, [2]int{20, 3}, [2]int{}},
	} {
		a := three(t, x.takes)
		left, right, e := Part(a, 3, x.key)
		if e != api.OK || sized(a, left) != x.left || sized(a, right) != x.right || a.Room() != 0 {
			t.Errorf("at %d: %v, %v, %d, room for %d", x.key, sized(a, left), sized(a, right), e, a.Room())
		}
	}
}

// Beside an error there is neither part, also where one was made already.
func TestPartFull(t *testing.T) {
	for key := 9; key < 32; key++ {
		for room := range 2 {
			if left, right, e := Part(three(t, room), 3, key); left != 0 || right != 0 || e != api.ErrFull {
				t.Errorf("at %d with room for %d: %d, %d, %d", key, room, left, right, e)
			}
		}
	}
	if left, right, e := Part(arena.New(0), 0, 5); left != 0 || right != 0 || e != api.OK {
		t.Errorf("nothing: %d, %d, %d", left, right, e)
	}
}

// Both sides' ways are copied till one ends, whichever of both keys is above;
// nothing joined to a treap is that treap.
func TestJoin(t *testing.T) {
	a := three(t, 2)
	if id, e := Join(a, 1, 2); e != api.OK || sized(a, id)[1] != 2 || a.Used() != 4 {
		t.Errorf("10 and 30: %v, %d, %d records", sized(a, id), e, a.Used())
	}
	for _, x := range [][3]int{{0, 0, 0}, {3, 0, 3}, {0, 3, 3}} {
		if id, e := Join(a, x[0], x[1]); id != x[2] || e != api.OK || a.Used() != 4 {
			t.Errorf("%d and %d: %d, %d", x[0], x[1], id, e)
		}
	}
	if id, e := node.Make(a, api.Pair{Key: 40}, 0, 0); id != 5 || e != api.OK {
		t.Fatalf("40: %d, %d", id, e)
	}
	if id, e := Join(a, 3, 5); id != 0 || e != api.ErrFull {
		t.Errorf("where there is no room: %d, %d", id, e)
	}
}
