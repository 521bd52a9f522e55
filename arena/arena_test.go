package arena

import (
	"math"
	"slices"
	"testing"

	"osier/api"
)

// item is what a test knows of a record, or of a cell: its kind is 0.
type item struct {
	kind int
	vals []int
	held int
}

// nowhere is numbers that nothing has, where there are so many items.
func nowhere(used int) []int {
	return []int{math.MinInt, -used, -1, 0, used + 1, used + 2, api.MaxArena + 1, math.MaxInt}
}

// makeOne makes a record, and fails where it doesn't get that number.
func makeOne(t *testing.T, a *Arena, want, kind int, vals ...int) {
	t.Helper()
	if id, e := a.Make(kind, vals...); id != want || e != api.OK {
		t.Fatalf("Make(%d, %v): %d, %d, not %d", kind, vals, id, e, want)
	}
}

// cellOne makes a cell, and fails where it doesn't get that number.
func cellOne(t *testing.T, a *Arena, want, v int) {
	t.Helper()
	if id, e := a.Cell(v); id != want || e != api.OK {
		t.Fatalf("Cell(%d): %d, %d, not %d", v, id, e, want)
	}
}

// counts fails where the arena has not used so many, room for so many, and made
// so many steps.
func counts(t *testing.T, a *Arena, used, room, steps int) {
	t.Helper()
	if a.Used() != used || a.Room() != room || a.Steps() != steps {
		t.Fatalf("used %d, room %d, steps %d, not %d, %d, %d", a.Used(), a.Room(), a.Steps(), used, room, steps)
	}
}

// load asks a cell, and fails where it doesn't hold that.
func load(t *testing.T, a *Arena, cell, want int) {
	t.Helper()
	if got := a.Load(cell); got != want {
		t.Fatalf("Load(%d): %d, not %d", cell, got, want)
	}
}

// holds fails where the arena says anything else of its items than is known. It
// makes one step for each cell.
func holds(t *testing.T, a *Arena, l []item) {
	t.Helper()
	for i, x := range l {
		id := i + 1
		if a.Kind(id) != x.kind {
			t.Fatalf("Kind(%d): %d, not %d", id, a.Kind(id), x.kind)
		}
		load(t, a, id, x.held)
		for _, j := range []int{math.MinInt, -1, len(x.vals), len(x.vals) + 1, math.MaxInt} {
			if a.Val(id, j) != 0 {
				t.Fatalf("Val(%d, %d): %d, where there is none", id, j, a.Val(id, j))
			}
		}
		for j, v := range x.vals {
			if a.Val(id, j) != v {
				t.Fatalf("Val(%d, %d): %d, not %d", id, j, a.Val(id, j), v)
			}
		}
	}
}

// P2.1: the chapter's example.
func TestExample(t *testing.T) {
	a := New(9)
	makeOne(t, a, 1, 1, 5)
	cellOne(t, a, 2, 1)
	if !a.Swap(2, 1, 7) {
		t.Error("the cell did not hold 1")
	}
	load(t, a, 2, 7)
}

// P2.1: room is brought to 0 to MaxArena; at first there is nothing.
func TestNew(t *testing.T) {
	for _, x := range []struct{ room, want int }{
		{math.MinInt, 0}, {-1, 0}, {0, 0}, {1, 1}, {59999, 59999},
		{60000, 60000}, {60001, 60000}, {math.MaxInt, 60000},
	} {
		a := New(x.room)
		counts(t, a, 0, x.want, 0)
		for _, id := range append(nowhere(0), 1) {
			if a.Kind(id) != 0 || a.Val(id, 0) != 0 || a.Load(id) != 0 || a.Steps() != 0 {
				t.Errorf("New(%d) has something of number %d", x.room, id)
			}
		}
	}
}

// P2.1: an arena without room refuses all, whatever room it was to have.
func TestNoRoom(t *testing.T) {
	for _, room := range []int{math.MinInt, -1, 0} {
		a := New(room)
		if id, e := a.Make(1); id != 0 || e != api.ErrFull {
			t.Errorf("room %d: Make: %d, %d", room, id, e)
		}
		if id, e := a.Cell(1); id != 0 || e != api.ErrFull {
			t.Errorf("room %d: Cell: %d, %d", room, id, e)
		}
		counts(t, a, 0, 0, 0)
	}
}

// P2.1: records and cells are numbered in one row, as they are made; what is
// refused takes no number.
func TestNumbers(t *testing.T) {
	a := New(7)
	makeOne(t, a, 1, 3, 7, -8)
	cellOne(t, a, 2, 1)
	if id, e := a.Make(0, 1); id != 0 || e != api.ErrArg {
		t.Errorf("kind 0: %d, %d", id, e)
	}
	cellOne(t, a, 3, 0)
	makeOne(t, a, 4, math.MaxInt)
	makeOne(t, a, 5, 1, 0, 0, math.MaxInt, math.MinInt)
	cellOne(t, a, 6, math.MinInt)
	counts(t, a, 6, 1, 0)
	holds(t, a, []item{
		{kind: 3, vals: []int{7, -8}}, {held: 1}, {},
		{kind: math.MaxInt}, {kind: 1, vals: []int{0, 0, math.MaxInt, math.MinInt}}, {held: math.MinInt},
	})
}

// P2.1: kinds are 1 and above; what is refused leaves all as it was.
func TestKindBelow(t *testing.T) {
	a := New(3)
	for _, kind := range []int{0, -1, math.MinInt} {
		for _, vals := range [][]int{nil, {4}, make([]int, api.MaxVals+1)} {
			if id, e := a.Make(kind, vals...); id != 0 || e != api.ErrArg {
				t.Errorf("Make(%d) of %d vals: %d, %d", kind, len(vals), id, e)
			}
		}
	}
	counts(t, a, 0, 3, 0)
	makeOne(t, a, 1, 1)
}

// P2.1: up to MaxVals vals, each at its place, and none more.
func TestVals(t *testing.T) {
	a := New(100)
	var l []item
	vals := make([]int, 0, 40)
	for n := range 40 {
		id, e := a.Make(n+1, vals...)
		switch {
		case n <= 12 && (id != n+1 || e != api.OK):
			t.Errorf("%d vals: %d, %d", n, id, e)
		case n <= 12:
			l = append(l, item{kind: n + 1, vals: slices.Clone(vals)})
		case id != 0 || e != api.ErrArg:
			t.Errorf("%d vals: %d, %d", n, id, e)
		}
		vals = append(vals, 1000*n-7)
	}
	counts(t, a, 13, 87, 0)
	holds(t, a, l)
}

// P2.1: what is handed in is neither kept nor changed (R2), nor is what lies
// behind its length.
func TestValsCopied(t *testing.T) {
	a := New(3)
	row := []int{1, 2, 3, 4}
	makeOne(t, a, 1, 5, row[:2]...)
	makeOne(t, a, 2, 5, row[2:]...)
	if !slices.Equal(row, []int{1, 2, 3, 4}) {
		t.Errorf("the row was changed: %v", row)
	}
	row[0], row[1], row[2], row[3] = 9, 9, 9, 9
	holds(t, a, []item{{kind: 5, vals: []int{1, 2}}, {kind: 5, vals: []int{3, 4}}})
}

// P2.1: the room is used up by records and cells alike; then what is there
// stays, and its cells go on.
func TestFull(t *testing.T) {
	a := New(3)
	cellOne(t, a, 1, 4)
	makeOne(t, a, 2, 2, 6)
	counts(t, a, 2, 1, 0)
	cellOne(t, a, 3, 0)
	for range 3 {
		if id, e := a.Make(1, 5); id != 0 || e != api.ErrFull {
			t.Errorf("Make in a full arena: %d, %d", id, e)
		}
		if id, e := a.Cell(5); id != 0 || e != api.ErrFull {
			t.Errorf("Cell in a full arena: %d, %d", id, e)
		}
	}
	counts(t, a, 3, 0, 0)
	holds(t, a, []item{{held: 4}, {kind: 2, vals: []int{6}}, {}})
	if !a.Swap(1, 4, -4) || !a.Once(3, 8) {
		t.Error("the cells of a full arena stand still")
	}
	holds(t, a, []item{{held: -4}, {kind: 2, vals: []int{6}}, {held: 8}})
}

// P2.1: ErrArg is told ahead of ErrFull (R4).
func TestWrongAndFull(t *testing.T) {
	a := New(0)
	for _, kind := range []int{0, -1, math.MinInt} {
		if id, e := a.Make(kind); id != 0 || e != api.ErrArg {
			t.Errorf("Make(%d): %d, %d", kind, id, e)
		}
	}
	if id, e := a.Make(1, make([]int, api.MaxVals+1)...); id != 0 || e != api.ErrArg {
		t.Errorf("too many vals: %d, %d", id, e)
	}
}

// P2.1: MaxArena of them, as large as they may be, and none more.
func TestMaxArena(t *testing.T) {
	a := New(math.MaxInt)
	for id := 1; id <= api.MaxArena; id++ {
		if id%3 == 0 {
			cellOne(t, a, id, -id)
			continue
		}
		vals := make([]int, api.MaxVals)
		for i := range vals {
			vals[i] = id*100 + i
		}
		makeOne(t, a, id, id, vals...)
	}
	counts(t, a, 60000, 0, 0)
	if id, e := a.Make(1); id != 0 || e != api.ErrFull {
		t.Errorf("one record more: %d, %d", id, e)
	}
	if id, e := a.Cell(1); id != 0 || e != api.ErrFull {
		t.Errorf("one cell more: %d, %d", id, e)
	}
	for id := 1; id <= api.MaxArena; id++ {
		if id%3 == 0 {
			load(t, a, id, -id)
		} else if a.Kind(id) != id || a.Val(id, 0) != id*100 || a.Val(id, 11) != id*100+11 || a.Val(id, 12) != 0 {
			t.Fatalf("record %d is another one", id)
		}
	}
	counts(t, a, 60000, 0, 20000)
}

// P2.1, P2.2: of numbers that nothing has: zero values, and no step.
func TestNowhere(t *testing.T) {
	a := New(5)
	cellOne(t, a, 1, 0)
	makeOne(t, a, 2, 1, 0)
	for _, id := range nowhere(2) {
		if a.Kind(id) != 0 || a.Val(id, 0) != 0 || a.Load(id) != 0 || a.Swap(id, 0, 5) || a.Once(id, 5) {
			t.Errorf("there is something of number %d", id)
		}
	}
	counts(t, a, 2, 3, 0)
	holds(t, a, []item{{}, {kind: 1, vals: []int{0}}})
}

// P2.1, P2.2: a record is no cell, whatever its values are, and a cell is no
// record.
func TestOtherSort(t *testing.T) {
	a := New(4)
	makeOne(t, a, 1, 1, 0, 5)
	makeOne(t, a, 2, 7, 5)
	makeOne(t, a, 3, 9)
	cellOne(t, a, 4, 5)
	for id := 1; id <= 3; id++ {
		if a.Load(id) != 0 || a.Swap(id, 0, 6) || a.Swap(id, 5, 6) || a.Once(id, 6) {
			t.Errorf("record %d is a cell", id)
		}
	}
	if a.Kind(4) != 0 || a.Val(4, 0) != 0 {
		t.Error("the cell is a record")
	}
	counts(t, a, 4, 0, 0)
	holds(t, a, []item{{kind: 1, vals: []int{0, 5}}, {kind: 7, vals: []int{5}}, {kind: 9}, {held: 5}})
}

// P2.2: a cell holds what it was last given; Swap asks what it holds.
func TestSwap(t *testing.T) {
	for _, x := range []struct {
		held, old, now int
		ok             bool
		then           int
	}{
		{5, 5, 6, true, 6}, {5, 4, 6, false, 5}, {5, 6, 5, false, 5}, {5, 5, 5, true, 5},
		{5, 0, 6, false, 5}, {5, -5, 6, false, 5}, {5, 5, 0, true, 0},
		{0, 0, 6, true, 6}, {0, 0, 0, true, 0}, {0, 1, 6, false, 0},
		{math.MinInt, math.MinInt, math.MaxInt, true, math.MaxInt},
		{math.MinInt, math.MaxInt, 1, false, math.MinInt},
	} {
		a := New(3)
		cellOne(t, a, 1, x.held)
		cellOne(t, a, 2, x.held)
		if ok := a.Swap(2, x.old, x.now); ok != x.ok {
			t.Errorf("%d held: Swap(%d, %d): %v", x.held, x.old, x.now, ok)
		}
		counts(t, a, 2, 1, 1)
		holds(t, a, []item{{held: x.held}, {held: x.then}})
	}
}

// P2.2: Once gives a cell that holds nought something other than nought.
func TestOnce(t *testing.T) {
	for _, x := range []struct {
		held, v int
		ok      bool
		then    int
	}{
		{0, 5, true, 5}, {0, -5, true, -5}, {0, math.MinInt, true, math.MinInt}, {0, 0, false, 0},
		{5, 6, false, 5}, {5, 5, false, 5}, {5, 0, false, 5}, {-5, 6, false, -5}, {-5, 5, false, -5},
	} {
		a := New(3)
		cellOne(t, a, 1, x.held)
		cellOne(t, a, 2, x.held)
		if ok := a.Once(2, x.v); ok != x.ok {
			t.Errorf("%d held: Once(%d): %v", x.held, x.v, ok)
		}
		counts(t, a, 2, 1, 1)
		holds(t, a, []item{{held: x.held}, {held: x.then}})
	}
}

// P2.2: the first Once of a cell stays; after a Swap to nought there is a first
// one again.
func TestOnceAgain(t *testing.T) {
	a := New(1)
	cellOne(t, a, 1, 0)
	if a.Once(1, 0) || !a.Once(1, 3) || a.Once(1, 4) || a.Once(1, 3) {
		t.Error("not the first one alone")
	}
	load(t, a, 1, 3)
	if !a.Swap(1, 3, 0) || !a.Once(1, 4) {
		t.Error("no first one again")
	}
	load(t, a, 1, 4)
}

// P2.2: each Load, Swap and Once of a cell is a step, also one that changes
// nothing; nothing else is.
func TestSteps(t *testing.T) {
	a := New(9)
	makeOne(t, a, 1, 1, 5)
	cellOne(t, a, 2, 0)
	a.Make(0)
	a.Kind(1)
	a.Kind(2)
	a.Val(1, 0)
	a.Val(2, 0)
	counts(t, a, 2, 7, 0)
	for i, do := range []func(cell int){
		func(cell int) { a.Load(cell) },
		func(cell int) { a.Swap(cell, 1, 2) },
		func(cell int) { a.Swap(cell, 0, 2) },
		func(cell int) { a.Swap(cell, 2, 0) },
		func(cell int) { a.Once(cell, 0) },
		func(cell int) { a.Once(cell, 3) },
		func(cell int) { a.Once(cell, 4) },
		func(cell int) { a.Load(cell) },
	} {
		do(1)
		do(0)
		do(3)
		counts(t, a, 2, 7, i)
		do(2)
		counts(t, a, 2, 7, i+1)
	}
}

// P2.1, P2.2: a nil arena.
func TestNil(t *testing.T) {
	var a *Arena
	for _, kind := range []int{-1, 0, 1} {
		if id, e := a.Make(kind, 5); id != 0 || e != api.ErrArg {
			t.Errorf("Make(%d): %d, %d", kind, id, e)
		}
	}
	if id, e := a.Cell(5); id != 0 || e != api.ErrArg {
		t.Errorf("Cell: %d, %d", id, e)
	}
	for _, id := range append(nowhere(0), 1) {
		if a.Kind(id) != 0 || a.Val(id, 0) != 0 || a.Load(id) != 0 || a.Swap(id, 0, 0) || a.Once(id, 1) {
			t.Errorf("it has something of number %d", id)
		}
	}
	counts(t, a, 0, 0, 0)
}

// R3: an arena that New did not make has no room, and nothing more.
func TestZeroArena(t *testing.T) {
	var a Arena
	if id, e := a.Cell(5); id != 0 || e != api.ErrFull {
		t.Errorf("Cell: %d, %d", id, e)
	}
	if a.Load(1) != 0 || a.Kind(1) != 0 {
		t.Error("it has something")
	}
	counts(t, &a, 0, 0, 0)
}

// R6: arenas know nothing of each other.
func TestTwoArenas(t *testing.T) {
	a, b := New(2), New(2)
	cellOne(t, a, 1, 3)
	makeOne(t, b, 1, 4, 5)
	cellOne(t, b, 2, 3)
	cellOne(t, a, 2, 9)
	if !b.Swap(2, 3, 8) {
		t.Error("the cell did not hold 3")
	}
	holds(t, a, []item{{held: 3}, {held: 9}})
	holds(t, b, []item{{kind: 4, vals: []int{5}}, {held: 8}})
}

// mixed calls do what comes, by numbers that follow one another by a short
// rule, on an arena and on a row of items; after each both must say the same.
type mixed struct {
	a     *Arena
	l     []item
	room  int
	steps int
	seed  uint64
}

// pick is the next number below n.
func (m *mixed) pick(n int) int {
	m.seed = m.seed*6364136223846793005 + 1442695040888963407
	return int(m.seed >> 33 % uint64(n))
}

// grow makes a record or a cell, or tries to.
func (m *mixed) grow(t *testing.T) {
	t.Helper()
	x := item{kind: m.pick(4)}
	if x.kind == 0 {
		x.held = m.pick(3)
	}
	for range m.pick(4) * x.kind {
		x.vals = append(x.vals, m.pick(9)-4)
	}
	id, e := 0, api.OK
	if x.kind == 0 {
		id, e = m.a.Cell(x.held)
	} else {
		id, e = m.a.Make(x.kind, x.vals...)
	}
	if len(m.l) == m.room {
		if id != 0 || e != api.ErrFull {
			t.Fatalf("full: %d, %d", id, e)
		}
		return
	}
	m.l = append(m.l, x)
	if id != len(m.l) || e != api.OK {
		t.Fatalf("the %d-th one: %d, %d", len(m.l), id, e)
	}
}

// touch makes a step, or tries to.
func (m *mixed) touch(t *testing.T) {
	t.Helper()
	id, old, now := m.pick(m.room+2), m.pick(3), m.pick(3)
	isCell := id > 0 && id <= len(m.l) && m.l[id-1].kind == 0
	held := 0
	if isCell {
		held = m.l[id-1].held
		m.steps++
	}
	ok, told := false, false
	switch m.pick(3) {
	case 0:
		load(t, m.a, id, held)
	case 1:
		told, ok = m.a.Swap(id, old, now), isCell && held == old
	default:
		told, ok = m.a.Once(id, now), isCell && held == 0 && now != 0
	}
	if told != ok {
		t.Fatalf("%d of %d: told %v, not %v", id, len(m.l), told, ok)
	}
	if ok {
		m.l[id-1].held = now
	}
}

// P2.1 to P2.3: through a long row of calls the arena says what a plain row of
// items says; no record becomes another one, and no number is given twice.
func TestMixed(t *testing.T) {
	for seed := range 30 {
		m := &mixed{a: New(seed), room: seed, seed: uint64(seed)}
		for range 300 {
			if m.pick(4) == 0 {
				m.grow(t)
			} else {
				m.touch(t)
			}
			counts(t, m.a, len(m.l), m.room-len(m.l), m.steps)
			holds(t, m.a, m.l)
			for _, x := range m.l {
				if x.kind == 0 {
					m.steps++
				}
			}
		}
	}
}

// P2.3: a cell that is given a new record's number each time never holds what
// it held before, so a Swap that comes too late can tell.
func TestNeverAgain(t *testing.T) {
	a := New(2000)
	cellOne(t, a, 1, 0)
	was := []int{0}
	for range 1999 {
		id, e := a.Make(1, 5)
		if e != api.OK || slices.Contains(was, id) {
			t.Fatalf("%d was there before (%d)", id, e)
		}
		for _, old := range was[:len(was)-1] {
			if a.Swap(1, old, id) {
				t.Fatalf("it holds %d again", old)
			}
		}
		if !a.Swap(1, was[len(was)-1], id) {
			t.Fatalf("it lost %d", was[len(was)-1])
		}
		was = append(was, id)
	}
}
