// Package way: what the layers share that go down a treap: a step down, the copy
// on the way back, the way that parts it, and the ways that join two. It stands
// on mix and node.
package way

import (
	"osier/api"
	"osier/arena"
	"osier/mix"
	"osier/node"
)

// IsTreap says whether t is nothing, or a node.
func IsTreap(a *arena.Arena, t int) bool {
	_, ok := node.Get(a, t)
	return ok || a != nil && t == 0
}

// At is the node t, with 0 for what counts as nothing: a copy has a higher
// number than t, and what hangs on it might count.
func At(a *arena.Arena, t int) (node.Node, bool) {
	n, ok := node.Get(a, t)
	n.Left, n.Right = counted(a, t, n.Left), counted(a, t, n.Right)
	return n, ok
}

// counted is what hangs on the node t, or 0, if that counts as nothing.
func counted(a *arena.Arena, t, hung int) int {
	if _, ok := node.Get(a, hung); ok && hung < t {
		return hung
	}
	return 0
}

// Make is a node of these, unless an error befell what is to hang on it.
func Make(a *arena.Arena, p api.Pair, left, right int, e api.Errno) (int, api.Errno) {
	if e != api.OK {
		return 0, e
	}
	return node.Make(a, p, left, right)
}

// Part is the treap of t's pairs below key, and that of the others. The way down
// to key is copied, what hangs beside it goes to its side as it is.
func Part(a *arena.Arena, t, key int) (int, int, api.Errno) {
	left, right, e := parted(a, t, key)
	if e != api.OK {
		return 0, 0, e
	}
	return left, right, api.OK
}

// parted is Part, but beside an error one part may be told.
func parted(a *arena.Arena, t, key int) (int, int, api.Errno) {
	n, ok := At(a, t)
	switch {
	case !ok:
		return 0, 0, api.OK
	case n.Key < key:
		left, right, e := parted(a, n.Right, key)
		left, e = Make(a, n.Pair, n.Left, left, e)
		return left, right, e
	default:
		left, right, e := parted(a, n.Left, key)
		right, e = Make(a, n.Pair, right, n.Right, e)
		return left, right, e
	}
}

// Join is the treap of l's pairs and r's, whose keys are above those of l. The
// ways down that face one another are copied, till one of them ends: what
// hangs there on the other one stays as it is.
func Join(a *arena.Arena, l, r int) (int, api.Errno) {
	m, okLeft := At(a, l)
	n, okRight := At(a, r)
	switch {
	case !okLeft:
		return r, api.OK
	case !okRight:
		return l, api.OK
	case mix.Above(m.Key, n.Key):
		right, e := Join(a, m.Right, r)
		return Make(a, m.Pair, m.Left, right, e)
	default:
		left, e := Join(a, l, n.Left)
		return Make(a, n.Pair, left, n.Right, e)
	}
}
