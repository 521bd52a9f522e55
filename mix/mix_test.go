package mix

import (
	"math"
	"math/bits"
	"slices"
	"testing"
)

// Keys with known ranks, worked out outside this program with whole numbers
// that do not wrap by themselves.
var known = []struct {
	key  int
	prio uint64
}{
	{0, 0xe220a8397b1dcdaf}, // the chapter's example
	{1, 0x910a2dec89025cc1},
	{2, 0x975835de1c9756ce},
	{42, 0xbdd732262feb6e95},
	{1000000, 0x680d1cce9cff45e7},
	{-1, 0xe4d971771b652c20},
	{-2, 0xf3203e9039f4a821},
	{-42, 0x2785535a58ae2bae},
	{math.MaxInt, 0x2a67d7552e039ea7},
	{math.MaxInt - 1, 0x2bd3a93e4c5407be},
	{math.MinInt, 0x481ec0a212a9f3db},
	{math.MinInt + 1, 0xdc29f439bcbdda2a},
	// Keys that come to the ends of the ranks, and to both sides of the middle.
	{7046029254386353131, 0},
	{-561184103760049731, 1},
	{959135552437182909, 1<<63 - 1},
	{3453682501520545093, 1 << 63},
	{5697289922173604375, math.MaxUint64 - 1},
	{3558559446808474027, math.MaxUint64},
}

// sample is keys of all sorts, none twice: near 0, near both ends of the ints,
// near each power of two, and the known ones.
func sample() []int {
	var l []int
	for i := -200; i <= 200; i++ {
		l = append(l, i)
	}
	for i := range 20 {
		l = append(l, math.MinInt+i, math.MaxInt-i)
	}
	for shift := range 63 {
		for _, near := range []int{-1, 0, 1} {
			l = append(l, 1<<shift+near, -(1<<shift)+near)
		}
	}
	for _, k := range known {
		l = append(l, k.key)
	}
	slices.Sort(l)
	return slices.Compact(l)
}

// inverse is the number by which an odd number is brought to 1, modulo 2^64.
func inverse(odd uint64) uint64 {
	x := odd
	for range 6 {
		x *= 2 - odd*x
	}
	return x
}

// unshift undoes x xor (x shifted right by n).
func unshift(x uint64, n int) uint64 {
	was := x
	for i := n; i < 64; i += n {
		was = x ^ was>>n
	}
	return was
}

// keyOf undoes Prio, by the chapter's numbers.
func keyOf(prio uint64) int {
	x := unshift(prio, 31) * inverse(0x94d049bb133111eb)
	x = unshift(x, 27) * inverse(0xbf58476d1ce4e5b9)
	return int(unshift(x, 30) - 0x9e3779b97f4a7c15)
}

// P1.1: known ranks, at 0, below it, and at the ends of the ints.
func TestPrioKnown(t *testing.T) {
	for _, k := range known {
		if got := Prio(k.key); got != k.prio {
			t.Errorf("Prio(%d): %x, not %x", k.key, got, k.prio)
		}
	}
}

// P1.1: step by step undone, each rank comes back to its key.
func TestPrioUndone(t *testing.T) {
	for _, key := range sample() {
		if got := keyOf(Prio(key)); got != key {
			t.Errorf("the rank of %d is that of %d", key, got)
		}
	}
}

// P1.1: asked again, a key has the rank that it had (R6).
func TestPrioStays(t *testing.T) {
	l := sample()
	was := make([]uint64, len(l))
	for i, key := range l {
		was[i] = Prio(key)
	}
	for i := len(l) - 1; i >= 0; i-- {
		if Prio(l[i]) != was[i] {
			t.Errorf("Prio(%d) has changed", l[i])
		}
	}
}

// P1.1: of a key with one bit turned each bit of the rank turns about half the
// time; what is mixed too little does not.
func TestPrioTurns(t *testing.T) {
	l := sample()
	for bit := range 64 {
		turned := 0
		for _, key := range l {
			turned += bits.OnesCount64(Prio(key) ^ Prio(int(uint64(key)^1<<bit)))
		}
		if mean := turned / len(l); mean < 30 || mean > 34 {
			t.Errorf("bit %d turns %d bits", bit, mean)
		}
	}
}

// P1.2: the greater rank is above, whichever key is the greater one.
func TestAboveKnown(t *testing.T) {
	for _, a := range known {
		for _, b := range known {
			if got, want := Above(a.key, b.key), a.prio > b.prio; got != want {
				t.Errorf("Above(%d, %d): %v", a.key, b.key, got)
			}
		}
	}
}

// P1.2: ranks have no sign: those with the highest bit are the greater ones.
func TestAboveNoSign(t *testing.T) {
	low, high := 959135552437182909, 3453682501520545093
	if !Above(high, low) || Above(low, high) {
		t.Error("2^63 is not above 2^63 - 1")
	}
}

// P1.2: of ranks with one bit between them the greater one is above, even where
// its key is the greater one too.
func TestAboveOneBit(t *testing.T) {
	for bit := range 64 {
		for _, key := range sample() {
			rank := Prio(key)
			low, high := keyOf(rank&^(1<<bit)), keyOf(rank|1<<bit)
			if !Above(high, low) || Above(low, high) {
				t.Errorf("rank %x: bit %d is not heeded", rank, bit)
			}
		}
	}
}

// P1.2: keys from the highest one down, as worked out outside this program.
func TestAboveRow(t *testing.T) {
	want := []int{-3, -2, -1, 0, -4, 2, 1, 4, 5, 3, -5}
	for i, a := range want {
		for j, b := range want {
			if got := Above(a, b); got != (i < j) {
				t.Errorf("Above(%d, %d): %v", a, b, got)
			}
		}
	}
}

// P1.2: no key is above itself: of the same rank, it is not the lower one.
func TestAboveSame(t *testing.T) {
	for _, key := range sample() {
		if Above(key, key) {
			t.Errorf("%d is above itself", key)
		}
	}
}

// P1.3: of two different keys just one is above the other.
func TestAboveOneOfTwo(t *testing.T) {
	l := sample()
	for i, a := range l {
		for _, b := range l[:i] {
			if Above(a, b) == Above(b, a) {
				t.Errorf("%d and %d: both or none", a, b)
			}
		}
	}
}

// P1.3: what is above is so throughout: there is one row of all keys, in which
// each is above all behind it.
func TestAboveOneRow(t *testing.T) {
	l := sample()
	slices.SortFunc(l, func(a, b int) int {
		switch {
		case Above(a, b):
			return -1
		case Above(b, a):
			return 1
		}
		return 0
	})
	for i, a := range l {
		for _, b := range l[i+1:] {
			if !Above(a, b) {
				t.Errorf("%d is not above %d", a, b)
			}
		}
	}
}
