// Package mix: which key is above which: see ../../shared/doc/01-mix.md.
package mix

// The finisher of splitmix64. Each of its steps can be undone, so that no two
// keys come to the same number.
const (
	offset = 0x9e3779b97f4a7c15
	first  = 0xbf58476d1ce4e5b9
	second = 0x94d049bb133111eb
)

// Prio is the key's rank. It looks random, so that treaps stay low, but hangs
// on the key alone, so that the same pairs always make the same treap.
func Prio(key int) uint64 {
	x := uint64(key) + offset
	x = (x ^ x>>30) * first
	x = (x ^ x>>27) * second
	return x ^ x>>31
}

// Above says whether a stands above b in a treap.
func Above(a, b int) bool {
	p, q := Prio(a), Prio(b)
	return p > q || p == q && a < b
}
