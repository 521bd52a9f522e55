package policy

import (
	"math"
	"testing"

	"osier/api"
)

// row is a number, and the nearest one that may be.
type row struct{ in, out int }

// high, low and other are what may be of each number of a policy, by hand: both
// bounds, one beyond each of them, what lies between, the bounds of the other
// numbers, the ends of int, and numbers whose lower 32 bits alone may be.
var (
	high = []row{
		{1, 1}, {2, 2}, {7, 7}, {99999, 99999}, {100000, 100000},
		{0, 1}, {-1, 1}, {-2, 1}, {-99999, 1}, {-100000, 1}, {-100001, 1},
		{100001, 100000}, {100002, 100000}, {200000, 100000},
		{1<<32 + 5, 100000}, {-1<<32 + 5, 1},
		{math.MaxInt - 1, 100000}, {math.MaxInt, 100000},
		{math.MinInt, 1}, {math.MinInt + 1, 1},
	}
	low = []row{
		{0, 0}, {-1, -1}, {-7, -7}, {-99999, -99999}, {-100000, -100000},
		{1, 0}, {2, 0}, {99999, 0}, {100000, 0}, {100001, 0},
		{-100001, -100000}, {-100002, -100000}, {-200000, -100000},
		{1<<32 - 5, 0}, {-1<<32 - 5, -100000},
		{math.MaxInt - 1, 0}, {math.MaxInt, 0},
		{math.MinInt, -100000}, {math.MinInt + 1, -100000},
	}
	other = []row{
		{0, 0}, {1, 1}, {-1, -1}, {7, 7}, {-7, -7},
		{99999, 99999}, {100000, 100000}, {-99999, -99999}, {-100000, -100000},
		{100001, 100000}, {200000, 100000}, {-100001, -100000}, {-200000, -100000},
		{1<<32 + 5, 100000}, {-1<<32 - 5, -100000},
		{math.MaxInt - 1, 100000}, {math.MaxInt, 100000},
		{math.MinInt, -100000}, {math.MinInt + 1, -100000},
	}
)

// number is one of the five numbers of a policy.
type number struct {
	name string
	of   func(*api.Policy) *int
	rows []row
}

var numbers = []number{
	{"High", func(p *api.Policy) *int { return &p.High }, high},
	{"Low", func(p *api.Policy) *int { return &p.Low }, low},
	{"Cont", func(p *api.Policy) *int { return &p.Cont }, other},
	{"Uncont", func(p *api.Policy) *int { return &p.Uncont }, other},
	{"Multi", func(p *api.Policy) *int { return &p.Multi }, other},
}

// good is policies that may be, with numbers that differ from one another, at
// the bounds, and between them.
var good = []api.Policy{
	{High: 1},
	{High: 11, Low: -12, Cont: 13, Uncont: 14, Multi: 15},
	{High: 11, Low: -12, Cont: -13, Uncont: -14, Multi: -15},
	{High: 100000, Low: -100000, Cont: 100000, Uncont: 100000, Multi: 100000},
	{High: 1, Low: 0, Cont: -100000, Uncont: -100000, Multi: -100000},
	{High: 100000, Low: 0, Cont: -100000, Uncont: 100000, Multi: 0},
}

// bad is policies none of whose numbers may be, and what each comes to.
var bad = []struct{ in, out api.Policy }{
	{
		api.Policy{High: 0, Low: 1, Cont: 100001, Uncont: 100001, Multi: 100001},
		api.Policy{High: 1, Low: 0, Cont: 100000, Uncont: 100000, Multi: 100000},
	},
	{
		api.Policy{High: 100001, Low: -100001, Cont: -100001, Uncont: -100001, Multi: -100001},
		api.Policy{High: 100000, Low: -100000, Cont: -100000, Uncont: -100000, Multi: -100000},
	},
	{
		api.Policy{High: -5, Low: -200000, Cont: 200000, Uncont: -300000, Multi: 400000},
		api.Policy{High: 1, Low: -100000, Cont: 100000, Uncont: -100000, Multi: 100000},
	},
	{
		api.Policy{High: 200000, Low: 5, Cont: -200000, Uncont: 300000, Multi: -400000},
		api.Policy{High: 100000, Low: 0, Cont: -100000, Uncont: 100000, Multi: -100000},
	},
	{
		api.Policy{High: math.MinInt, Low: math.MaxInt, Cont: math.MaxInt, Uncont: math.MaxInt, Multi: math.MaxInt},
		api.Policy{High: 1, Low: 0, Cont: 100000, Uncont: 100000, Multi: 100000},
	},
	{
		api.Policy{High: math.MaxInt, Low: math.MinInt, Cont: math.MinInt, Uncont: math.MinInt, Multi: math.MinInt},
		api.Policy{High: 100000, Low: -100000, Cont: -100000, Uncont: -100000, Multi: -100000},
	},
}

// check asks both calls, twice, of one policy.
func check(t *testing.T, in, out api.Policy) {
	t.Helper()
	for range 2 {
		if got := Clamp(in); got != out {
			t.Errorf("Clamp(%+v): %+v, not %+v", in, got, out)
		}
		if got := May(in); got != (in == out) {
			t.Errorf("May(%+v): %v", in, got)
		}
	}
}

// P11.1: the numbers above are the document's.
func TestMaxPolicy(t *testing.T) {
	if api.MaxPolicy != 100000 {
		t.Errorf("MaxPolicy is %d", api.MaxPolicy)
	}
}

// P11.1: each number by itself, the others as they may be: whether the policy
// may be hangs on that number, and Clamp leaves the others.
func TestEachAlone(t *testing.T) {
	for _, n := range numbers {
		for _, p := range good {
			for _, r := range n.rows {
				in, out := p, p
				*n.of(&in), *n.of(&out) = r.in, r.out
				check(t, in, out)
			}
		}
	}
}

// P11.1: each number by itself, the others as they may not be: Clamp brings the
// number where it brings it beside any others, and the policy may not be.
func TestEachAmongBad(t *testing.T) {
	for _, n := range numbers {
		for _, p := range bad {
			for _, r := range n.rows {
				in, out := p.in, p.out
				*n.of(&in), *n.of(&out) = r.in, r.out
				check(t, in, out)
			}
		}
	}
}

// P11.1: one number that may not be is enough, and is the one that Clamp brings.
func TestOneWrong(t *testing.T) {
	for _, p := range bad {
		for _, n := range numbers {
			in := p.out
			*n.of(&in) = *n.of(&p.in)
			check(t, in, p.out)
		}
	}
}

// P11.1: any number beside any others.
func TestTogether(t *testing.T) {
	for _, h := range high {
		for _, l := range low {
			for i, c := range other {
				// Other places of the same rows, so that no two of the three keep step.
				u, m := other[(i*5+3)%len(other)], other[(i*7+1)%len(other)]
				in := api.Policy{High: h.in, Low: l.in, Cont: c.in, Uncont: u.in, Multi: m.in}
				out := api.Policy{High: h.out, Low: l.out, Cont: c.out, Uncont: u.out, Multi: m.out}
				check(t, in, out)
			}
		}
	}
}

// P11.1: policies none of whose numbers may be, on either side.
func TestAllWrong(t *testing.T) {
	for _, p := range bad {
		check(t, p.in, p.out)
	}
}

// P11.1: by the nearest way: no number from -MaxPolicy to MaxPolicy is brought
// anywhere but to the nearest bound, nor told to be what it is not.
func TestEveryNumber(t *testing.T) {
	for n := -100003; n <= 100003; n++ {
		in := api.Policy{High: n, Low: n, Cont: n, Uncont: n, Multi: n}
		out := api.Policy{High: n, Low: n, Cont: n, Uncont: n, Multi: n}
		if n < 1 {
			out.High = 1
		} else {
			out.Low = 0
		}
		if n > 100000 {
			out.High, out.Cont, out.Uncont, out.Multi = 100000, 100000, 100000, 100000
		}
		if n < -100000 {
			out.Low, out.Cont, out.Uncont, out.Multi = -100000, -100000, -100000, -100000
		}
		if got := Clamp(in); got != out {
			t.Fatalf("Clamp(%+v): %+v", in, got)
		}
		// No number is one for High and one for Low, so in may not be; beside others it may.
		h, l, o := api.Policy{High: n}, api.Policy{High: 1, Low: n}, api.Policy{High: 1, Cont: n, Uncont: n, Multi: n}
		if May(in) || May(h) != (out.High == n) || May(l) != (out.Low == n) || May(o) != (out.Cont == n) {
			t.Fatalf("May of %d: %v, %v, %v, %v", n, May(in), May(h), May(l), May(o))
		}
	}
}

// P11.1: no number comes to lie in place of another.
func TestPlaces(t *testing.T) {
	in := api.Policy{High: 21, Low: -22, Cont: 23, Uncont: -24, Multi: 25}
	got := Clamp(in)
	if got.High != 21 || got.Low != -22 || got.Cont != 23 || got.Uncont != -24 || got.Multi != 25 {
		t.Errorf("%+v", got)
	}
}

// P11.1: High above Low or not, Cont, Uncont and Multi of either sign: the
// numbers are not held against one another.
func TestNotAgainstOneAnother(t *testing.T) {
	for _, p := range []api.Policy{
		{High: 1, Low: -100000},
		{High: 100000, Low: 0},
		{High: 1, Low: 0, Cont: -1, Uncont: -1, Multi: -1},
		{High: 1, Low: 0, Cont: 100000, Uncont: 100000, Multi: 100000},
		{High: 5, Low: -3, Cont: 6, Uncont: 4, Multi: -4},
	} {
		check(t, p, p)
	}
}

// P11.1, R7: the zero policy has no High, and may not be.
func TestZero(t *testing.T) {
	check(t, api.Policy{}, api.Policy{High: 1})
}

// The chapter's example: Clamp of High 0 tells High 1.
func TestExample(t *testing.T) {
	for _, p := range good {
		p.High = 0
		if May(p) || Clamp(p).High != 1 {
			t.Errorf("%+v: %v, %d", p, May(p), Clamp(p).High)
		}
	}
}

// P11.1: Off, number by number; it may be, and is told again and again.
func TestOff(t *testing.T) {
	for range 2 {
		p := Off()
		if p.High != 100000 || p.Low != -100000 || p.Cont != 0 || p.Uncont != 0 || p.Multi != 0 {
			t.Errorf("%+v", p)
		}
		check(t, p, p)
		p.High, p.Low, p.Cont, p.Uncont, p.Multi = 2, 2, 2, 2, 2
	}
}

// P11.1: Eager, number by number; it may be, and is told again and again.
func TestEager(t *testing.T) {
	for range 2 {
		p := Eager()
		if p.High != 1 || p.Low != -1 || p.Cont != 2 || p.Uncont != -1 || p.Multi != 3 {
			t.Errorf("%+v", p)
		}
		check(t, p, p)
		p.High, p.Low, p.Cont, p.Uncont, p.Multi = 4, 4, 4, 4, 4
	}
}

// P11.2: what may be stays as it is.
func TestStays(t *testing.T) {
	for _, p := range append([]api.Policy{Off(), Eager()}, good...) {
		if !May(p) || Clamp(p) != p {
			t.Errorf("%+v: %v, %+v", p, May(p), Clamp(p))
		}
	}
}

// P11.2: what Clamp tells may be, and stays as it is.
func TestClampTwice(t *testing.T) {
	for _, n := range numbers {
		for _, p := range bad {
			for _, r := range n.rows {
				in := p.in
				*n.of(&in) = r.in
				once := Clamp(in)
				if !May(once) || Clamp(once) != once {
					t.Errorf("Clamp(%+v): %+v: %v, %+v", in, once, May(once), Clamp(once))
				}
			}
		}
	}
}

// R2: the caller's own policy is not changed.
func TestNotChanged(t *testing.T) {
	for _, p := range bad {
		was := p.in
		Clamp(p.in)
		May(p.in)
		if p.in != was {
			t.Errorf("%+v is %+v now", was, p.in)
		}
	}
}
