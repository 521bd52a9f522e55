package stat

import (
	"math"
	"slices"
	"testing"

	"osier/api"
	"osier/policy"
)

// What may befall a leaf, by the document's numbers.
const (
	nothing     = 0
	contended   = 1
	uncontended = 2
	several     = 3
)

// others is numbers of nothing that may befall a leaf: Nothing, below, above,
// the ends of int, and numbers whose lower 8, 16 or 32 bits alone are one's.
var others = []int{
	nothing, -1, -2, -3, 4, 5, 9, -100,
	1<<8 + 1, 1<<16 + 2, 1<<32 + 1, 1<<32 + 2, 1<<32 + 3, -1<<32 + 1, -1<<32 + 3,
	math.MinInt, math.MinInt + 1, math.MinInt + 2, math.MinInt + 3,
	math.MaxInt - 2, math.MaxInt - 1, math.MaxInt,
}

// all is what may befall a leaf, and what may not.
var all = append([]int{contended, uncontended, several}, others...)

// stats is stats, and each as it counts: within the bounds, at both, beyond them.
var stats = []struct{ in, out int }{
	{0, 0}, {1, 1}, {-1, -1}, {7, 7}, {-7, -7},
	{100000, 100000}, {-100000, -100000}, {100001, 100001}, {-100001, -100001},
	{900000, 900000}, {-900000, -900000},
	{999999, 999999}, {1000000, 1000000}, {1000001, 1000000}, {1100000, 1000000},
	{-999999, -999999}, {-1000000, -1000000}, {-1000001, -1000000}, {-1100000, -1000000},
	{1<<32 + 5, 1000000}, {-1<<32 + 5, -1000000}, {1 << 62, 1000000}, {-1 << 62, -1000000},
	{math.MaxInt - 1, 1000000}, {math.MaxInt, 1000000},
	{math.MinInt, -1000000}, {math.MinInt + 1, -1000000},
}

// turns is Cont, Uncont and Multi, each other than the others, and what
// Contended, Uncontended and Several add under them.
var turns = []struct {
	cont, uncont, multi int
	add                 [3]int
}{
	{0, 0, 0, [3]int{0, 0, 0}},
	{5, 2, 4, [3]int{5, -2, -4}},
	{-5, -2, -4, [3]int{-5, 2, 4}},
	{5, -2, 4, [3]int{5, 2, -4}},
	{-5, 2, -4, [3]int{-5, -2, 4}},
	{5, 0, 0, [3]int{5, 0, 0}},
	{0, 5, 0, [3]int{0, -5, 0}},
	{0, 0, 5, [3]int{0, 0, -5}},
	{99999, 99998, 99997, [3]int{99999, -99998, -99997}},
	{100000, 100000, 100000, [3]int{100000, -100000, -100000}},
	{-100000, -100000, -100000, [3]int{-100000, 100000, 100000}},
	// None of these may be.
	{100001, 100001, 100001, [3]int{100000, -100000, -100000}},
	{-100001, -100001, -100001, [3]int{-100000, 100000, 100000}},
	{200000, 3, -4, [3]int{100000, -3, 4}},
	{2, -200000, -4, [3]int{2, 100000, 4}},
	{2, 3, 200000, [3]int{2, -3, -100000}},
	{1<<32 + 5, -1<<32 - 5, 1<<32 + 5, [3]int{100000, 100000, -100000}},
	{math.MaxInt, math.MaxInt, math.MaxInt, [3]int{100000, -100000, -100000}},
	{math.MinInt, math.MinInt, math.MinInt, [3]int{-100000, 100000, 100000}},
	{math.MinInt, math.MaxInt, math.MinInt, [3]int{-100000, -100000, 100000}},
}

// ends is High and Low, and each as it counts.
var ends = []struct{ high, low, highOut, lowOut int }{
	{1, 0, 1, 0}, {3, -2, 3, -2}, {1, -1, 1, -1}, {50, 0, 50, 0}, {1, -50, 1, -50},
	{99999, -99999, 99999, -99999}, {100000, -100000, 100000, -100000},
	{100000, 0, 100000, 0}, {1, -100000, 1, -100000},
	// None of these may be: High, Low, both.
	{0, -2, 1, -2}, {-1, -2, 1, -2}, {-5, -7, 1, -7}, {100001, -2, 100000, -2}, {200000, -2, 100000, -2},
	{3, 1, 3, 0}, {3, 2, 3, 0}, {3, 9, 3, 0}, {3, -100001, 3, -100000}, {3, -200000, 3, -100000},
	{0, 1, 1, 0}, {-5, 5, 1, 0}, {0, 9, 1, 0}, {100001, -100001, 100000, -100000},
	{1 << 40, -1 << 40, 100000, -100000}, {-1 << 40, 1 << 40, 1, 0},
	{math.MaxInt, math.MinInt, 100000, -100000}, {math.MinInt, math.MaxInt, 1, 0},
	{math.MaxInt, math.MaxInt, 100000, 0}, {math.MinInt, math.MinInt, 1, -100000},
}

// heldByHand is where a sum comes to lie, without the package.
func heldByHand(n int) int {
	if n > 1000000 {
		return 1000000
	}
	if n < -1000000 {
		return -1000000
	}
	return n
}

// checkNext asks Next, and After of one, twice.
func checkNext(t *testing.T, p api.Policy, stat, what, want int) {
	t.Helper()
	for range 2 {
		if got := Next(p, stat, what); got != want {
			t.Errorf("Next(%+v, %d, %d): %d, not %d", p, stat, what, got, want)
		}
		if got := After(p, stat, what); got != want {
			t.Errorf("After(%+v, %d, %d): %d, not %d", p, stat, what, got, want)
		}
	}
}

// checkAfter asks After twice.
func checkAfter(t *testing.T, p api.Policy, stat int, want int, what ...int) {
	t.Helper()
	for range 2 {
		if got := After(p, stat, what...); got != want {
			t.Errorf("After(%+v, %d, %v): %d, not %d", p, stat, what, got, want)
		}
	}
}

// checkDecide asks Decide twice.
func checkDecide(t *testing.T, p api.Policy, stat, want int) {
	t.Helper()
	for range 2 {
		if got := Decide(p, stat); got != want {
			t.Errorf("Decide(%+v, %d): %d, not %d", p, stat, got, want)
		}
	}
}

// P12.1: the numbers above are the document's.
func TestNumbers(t *testing.T) {
	if api.MaxStat != 1000000 || api.MaxPolicy != 100000 {
		t.Errorf("MaxStat %d, MaxPolicy %d", api.MaxStat, api.MaxPolicy)
	}
	if api.Nothing != nothing || api.Contended != contended || api.Uncontended != uncontended || api.Several != several {
		t.Errorf("%d, %d, %d, %d", api.Nothing, api.Contended, api.Uncontended, api.Several)
	}
	if api.Leave != 0 || api.Split != 1 || api.Join != 2 {
		t.Errorf("%d, %d, %d", api.Leave, api.Split, api.Join)
	}
}

// P12.1: what befalls a leaf, told by hand: each thing, from either side of 0.
func TestNextByHand(t *testing.T) {
	p := api.Policy{High: 3, Low: -2, Cont: 5, Uncont: 2, Multi: 4}
	for _, x := range []struct{ stat, what, want int }{
		{0, contended, 5}, {0, uncontended, -2}, {0, several, -4}, {0, nothing, 0},
		{10, contended, 15}, {10, uncontended, 8}, {10, several, 6}, {10, nothing, 10},
		{-10, contended, -5}, {-10, uncontended, -12}, {-10, several, -14}, {-10, nothing, -10},
		{1000000, contended, 1000000}, {999995, contended, 1000000}, {999994, contended, 999999}, {999996, contended, 1000000},
		{-1000000, uncontended, -1000000}, {-999998, uncontended, -1000000}, {-999997, uncontended, -999999}, {-999999, uncontended, -1000000},
		{-1000000, several, -1000000}, {-999996, several, -1000000}, {-999995, several, -999999}, {-999997, several, -1000000},
	} {
		checkNext(t, p, x.stat, x.what, x.want)
	}
}

// P12.1: a stat beyond its bounds counts as the bound before it is turned.
func TestHeldAhead(t *testing.T) {
	p := api.Policy{High: 3, Low: -2, Cont: 5, Uncont: 2, Multi: 4}
	for _, far := range []int{1000000, 1000001, 1000003, 1000050, 1 << 40, math.MaxInt - 1, math.MaxInt} {
		checkNext(t, p, far, contended, 1000000)
		checkNext(t, p, far, uncontended, 999998)
		checkNext(t, p, far, several, 999996)
		checkNext(t, p, far, nothing, 1000000)
	}
	for _, far := range []int{-1000000, -1000001, -1000003, -1000050, -1 << 40, math.MinInt + 1, math.MinInt} {
		checkNext(t, p, far, contended, -999995)
		checkNext(t, p, far, uncontended, -1000000)
		checkNext(t, p, far, several, -1000000)
		checkNext(t, p, far, nothing, -1000000)
	}
}

// P12.1: every stat beside every Cont, Uncont and Multi, under every High and
// Low, on which Next and After do not hang.
func TestNext(t *testing.T) {
	for _, e := range ends {
		for _, u := range turns {
			p := api.Policy{High: e.high, Low: e.low, Cont: u.cont, Uncont: u.uncont, Multi: u.multi}
			for _, s := range stats {
				for i, add := range u.add {
					checkNext(t, p, s.in, i+1, heldByHand(s.out+add))
				}
				for _, what := range others {
					checkNext(t, p, s.in, what, s.out)
				}
			}
		}
	}
}

// P12.1: After of nothing is the stat, held, whatever the policy.
func TestAfterNone(t *testing.T) {
	for _, e := range ends {
		for _, u := range turns {
			p := api.Policy{High: e.high, Low: e.low, Cont: u.cont, Uncont: u.uncont, Multi: u.multi}
			for _, s := range stats {
				checkAfter(t, p, s.in, s.out)
				checkAfter(t, p, s.in, s.out, nil...)
				checkAfter(t, p, s.in, s.out, []int{}...)
			}
		}
	}
}

// P12.1: After of many, by hand.
func TestAfterByHand(t *testing.T) {
	p := api.Policy{High: 3, Low: -2, Cont: 5, Uncont: 2, Multi: 4}
	checkAfter(t, p, 1, 6, contended)
	checkAfter(t, p, 1, 11, contended, contended)
	checkAfter(t, p, 1, 0, contended, several, uncontended)
	checkAfter(t, p, 1, -1, uncontended, nothing)
	checkAfter(t, p, 1, 1, nothing, 9, -1, math.MaxInt, math.MinInt)
	checkAfter(t, p, 1, 6, 9, contended, -1)
	checkAfter(t, p, 0, -6, uncontended, uncontended, uncontended)
	checkAfter(t, p, 0, -12, several, several, several)
	checkAfter(t, p, 0, -1, contended, uncontended, several)
	checkAfter(t, p, math.MaxInt, 999994, contended, several, uncontended)
	checkAfter(t, p, math.MinInt, -999990, several, contended, contended)
	odd := api.Policy{High: 0, Low: 9, Cont: 1 << 40, Uncont: -1 << 40, Multi: 1 << 40}
	checkAfter(t, odd, 3, 100003, contended, uncontended, several)
	checkAfter(t, odd, 3, 300003, contended, contended, contended)
}

// P12.1: where a bound is come to on the way, the order matters: what lies
// beyond it is gone for what comes next.
func TestAfterOrder(t *testing.T) {
	p := api.Policy{High: 3, Low: -2, Cont: 5, Uncont: 2, Multi: 4}
	checkAfter(t, p, 1000000, 999996, contended, several)
	checkAfter(t, p, 1000000, 1000000, several, contended)
	checkAfter(t, p, 999999, 999998, contended, uncontended)
	checkAfter(t, p, 999999, 1000000, uncontended, contended)
	checkAfter(t, p, -1000000, -999995, several, contended)
	checkAfter(t, p, -1000000, -999999, contended, several)
	checkAfter(t, p, -999999, -999995, uncontended, contended)
	checkAfter(t, p, -999999, -999996, contended, uncontended)
	// Once at a bound it stays there till it is turned back.
	checkAfter(t, p, 999990, 999998, contended, contended, contended, contended, uncontended)
	checkAfter(t, p, -999990, -999995, several, several, several, several, contended)
	// Away from the bounds it does not.
	checkAfter(t, p, 7, 8, contended, several)
	checkAfter(t, p, 7, 8, several, contended)
}

// P12.1: many in a row: so many come to the bound, one less doesn't, more stay.
func TestAfterLong(t *testing.T) {
	p := api.Policy{High: 3, Low: -2, Cont: 1000, Uncont: 2000, Multi: 4000}
	for _, x := range []struct{ what, n, before, atBound, back, beyond int }{
		{contended, 1000, 999000, 1000000, several, 996000},
		{uncontended, 500, -998000, -1000000, contended, -999000},
		{several, 250, -996000, -1000000, contended, -999000},
	} {
		checkAfter(t, p, 0, x.before, slices.Repeat([]int{x.what}, x.n-1)...)
		checkAfter(t, p, 0, x.atBound, slices.Repeat([]int{x.what}, x.n)...)
		checkAfter(t, p, 0, x.atBound, slices.Repeat([]int{x.what}, x.n+1)...)
		far := slices.Repeat([]int{x.what}, 10*x.n)
		checkAfter(t, p, 0, x.atBound, far...)
		checkAfter(t, p, 0, x.beyond, append(far, x.back)...)
	}
}

// rows is all rows of up to that many of the things.
func rows(things []int, most int) [][]int {
	told := [][]int{{}}
	for from := 0; most > 0; most-- {
		to := len(told)
		for _, r := range told[from:to] {
			for _, w := range things {
				told = append(told, append(slices.Clone(r), w))
			}
		}
		from = to
	}
	return told
}

// P12.1: one after the other: After of two parts is After of both, in that
// order, and is what Next tells of one after the other.
func TestAfterParts(t *testing.T) {
	things := []int{contended, uncontended, several, 9}
	for _, u := range turns {
		p := api.Policy{High: 3, Low: -2, Cont: u.cont, Uncont: u.uncont, Multi: u.multi}
		for _, s := range stats {
			for _, r := range rows(things, 4) {
				whole := After(p, s.in, r...)
				byHand := s.out
				for _, what := range r {
					if what <= several {
						byHand = heldByHand(byHand + u.add[what-1])
					}
				}
				if whole != byHand {
					t.Fatalf("After(%+v, %d, %v): %d, not %d", p, s.in, r, whole, byHand)
				}
				for i := range len(r) + 1 {
					if got := After(p, After(p, s.in, r[:i]...), r[i:]...); got != whole {
						t.Fatalf("After(%+v, %d, %v | %v): %d, not %d", p, s.in, r[:i], r[i:], got, whole)
					}
				}
			}
		}
	}
}

// P12.1: Decide at High and at Low, and one above and below each; a stat beyond
// its bounds counts as the bound.
func TestDecide(t *testing.T) {
	for _, e := range ends {
		for _, u := range turns {
			p := api.Policy{High: e.high, Low: e.low, Cont: u.cont, Uncont: u.uncont, Multi: u.multi}
			for _, stat := range []int{e.highOut + 1, e.highOut + 2, 100001, 999999, 1000000, 1000001, 1<<32 - 5, 1 << 62, math.MaxInt - 1, math.MaxInt} {
				checkDecide(t, p, stat, 1)
			}
			for _, stat := range []int{e.highOut, e.highOut - 1, e.highOut / 2, 0, e.lowOut / 2, e.lowOut + 1, e.lowOut} {
				checkDecide(t, p, stat, 0)
			}
			for _, stat := range []int{e.lowOut - 1, e.lowOut - 2, -100001, -999999, -1000000, -1000001, -1<<32 + 5, -1 << 62, math.MinInt + 1, math.MinInt} {
				checkDecide(t, p, stat, 2)
			}
		}
	}
}

// P12.1: Decide of every stat near 0.
func TestDecideEvery(t *testing.T) {
	for high := 1; high < 9; high++ {
		for low := 0; low > -9; low-- {
			for stat := -20; stat <= 20; stat++ {
				want := 0
				if stat > high {
					want = 1
				}
				if stat < low {
					want = 2
				}
				checkDecide(t, api.Policy{High: high, Low: low, Cont: 1, Uncont: 1, Multi: 1}, stat, want)
			}
		}
	}
}

// P12.1: a policy that may not be counts as its Clamp: one number that may not
// be, and all five at once.
func TestClamped(t *testing.T) {
	good := api.Policy{High: 3, Low: -2, Cont: 5, Uncont: 2, Multi: 4}
	wrong := []api.Policy{
		{High: 0, Low: 9, Cont: 1 << 40, Uncont: -1 << 40, Multi: 1 << 40},
		{High: 100001, Low: -100001, Cont: -100001, Uncont: 100001, Multi: -100001},
		{High: math.MinInt, Low: math.MaxInt, Cont: math.MinInt, Uncont: math.MinInt, Multi: math.MinInt},
		{High: math.MaxInt, Low: math.MinInt, Cont: math.MaxInt, Uncont: math.MaxInt, Multi: math.MaxInt},
	}
	for _, w := range wrong {
		high, low, cont, uncont, multi := good, good, good, good, good
		high.High, low.Low, cont.Cont, uncont.Uncont, multi.Multi = w.High, w.Low, w.Cont, w.Uncont, w.Multi
		for _, p := range []api.Policy{w, high, low, cont, uncont, multi} {
			c := policy.Clamp(p)
			if policy.May(p) || !policy.May(c) {
				t.Fatalf("%+v, %+v", p, c)
			}
			for _, s := range stats {
				for _, what := range all {
					checkNext(t, p, s.in, what, Next(c, s.in, what))
				}
				checkAfter(t, p, s.in, After(c, s.in, all...), all...)
				checkDecide(t, p, s.in, Decide(c, s.in))
			}
			for _, stat := range []int{-200001, -100001, -100000, -3, -2, -1, 0, 1, 2, 3, 4, 9, 10, 100000, 100001, 200001} {
				checkDecide(t, p, stat, Decide(c, stat))
			}
		}
	}
}

// P12.1, R7: the zero policy counts as High 1, else noughts.
func TestZeroPolicy(t *testing.T) {
	for _, s := range stats {
		checkAfter(t, api.Policy{}, s.in, s.out, all...)
	}
	for stat, want := range map[int]int{-1: 2, 0: 0, 1: 0, 2: 1} {
		checkDecide(t, api.Policy{}, stat, want)
	}
}

// P12.2: under Off whatever befalls a leaf whose stat is 0, it stays 0, and is left.
func TestOff(t *testing.T) {
	p := policy.Off()
	for _, what := range all {
		checkNext(t, p, 0, what, 0)
		checkDecide(t, p, Next(p, 0, what), 0)
	}
	for _, r := range append(rows([]int{nothing, contended, uncontended, several, -1}, 5), all, slices.Repeat(all, 1000)) {
		checkAfter(t, p, 0, 0, r...)
		checkDecide(t, p, After(p, 0, r...), 0)
	}
	stat := 0
	for range 1000 {
		for _, what := range all {
			stat = Next(p, stat, what)
			checkDecide(t, p, stat, 0)
		}
	}
	if stat != 0 {
		t.Errorf("stat %d", stat)
	}
}

// P12.2: Off leaves any leaf as it is, but holds its stat, and has a High and a
// Low like any policy.
func TestOffElsewhere(t *testing.T) {
	p := policy.Off()
	for _, s := range stats {
		checkAfter(t, p, s.in, s.out, all...)
	}
	for stat, want := range map[int]int{100000: 0, 100001: 1, -100000: 0, -100001: 2} {
		checkDecide(t, p, stat, want)
	}
}

// The chapter's example: under Eager, from 0, Uncontended tells 1.
func TestExample(t *testing.T) {
	p := policy.Eager()
	checkNext(t, p, 0, uncontended, 1)
	checkNext(t, p, 0, contended, 2)
	checkNext(t, p, 0, several, -3)
	checkDecide(t, p, 1, 0)
	checkAfter(t, p, 0, 2, uncontended, uncontended)
	checkDecide(t, p, 2, 1)
	checkDecide(t, p, -3, 2)
}

// R2: the list that is handed in is not changed, nor what lies behind it, which
// is not read either.
func TestNotChanged(t *testing.T) {
	p := api.Policy{High: 0, Low: 9, Cont: 5, Uncont: 2, Multi: 1 << 40}
	was := p
	whole := []int{contended, contended, 9, several, contended, uncontended}
	list := whole[1:4]
	checkAfter(t, p, 7, -99988, list...)
	checkAfter(t, p, 7, 7, whole[2:2]...)
	Next(p, 7, contended)
	Decide(p, 7)
	if !slices.Equal(whole, []int{contended, contended, 9, several, contended, uncontended}) {
		t.Errorf("the list is %v now", whole)
	}
	if p != was {
		t.Errorf("%+v is %+v now", was, p)
	}
	// Nor is it kept.
	list[0] = several
	checkAfter(t, p, 7, -199993, list...)
	checkAfter(t, p, 7, 7)
}
