package quad

import (
	"hachure/api"
)

// square is cells from one on, so many columns and rows of them.
type square struct{ x, y, side int64 }

// rootOf is the square of the least power of 2 that is no less than both sides.
func rootOf(w, h int64) square {
	side := int64(1)
	for side < w || side < h {
		side *= 2
	}
	return square{0, 0, side}
}

// quarters are the upper left one, the upper right, the lower left, the lower right.
func (s square) quarters() [4]square {
	half := s.side / 2
	return [4]square{{s.x, s.y, half}, {s.x + half, s.y, half}, {s.x, s.y + half, half}, {s.x + half, s.y + half, half}}
}

func (s square) cells() api.Rect {
	return api.Rect{X0: s.x, Y0: s.y, X1: s.x + s.side - 1, Y1: s.y + s.side - 1}
}

// node is a square of a tree: a leaf, or a fork. None is changed once it is made, so trees may have some in common.
type node interface {
	// kid is what the i-th quarter has.
	kid(i int) node
}

// leaf tells whether all cells are in the set, or none is.
type leaf bool

func (l leaf) kid(int) node { return l }

// fork has four kids, that aren't leaves that are all alike.
type fork struct{ kids [4]node }

func (f *fork) kid(i int) node { return f.kids[i] }

// in tells whether a node is a leaf in the set.
func in(n node) bool {
	l, ok := n.(leaf)
	return ok && bool(l)
}

// join is the square of four quarters.
func join(kids [4]node) node {
	first, ok := kids[0].(leaf)
	for _, k := range kids {
		other, alike := k.(leaf)
		ok = ok && alike && other == first
	}
	if ok {
		return first
	}
	return &fork{kids}
}

// build is a set of that size. It is told of a square whether it is in the set as a whole, and whether that is known.
func build(w, h int64, known func(s square) (bool, bool)) *Quad {
	var grow func(s square) node
	grow = func(s square) node {
		if s.x >= w || s.y >= h {
			return leaf(false)
		}
		if set, ok := known(s); ok {
			return leaf(set)
		}
		var kids [4]node
		for i, quarter := range s.quarters() {
			kids[i] = grow(quarter)
		}
		return join(kids)
	}
	return &Quad{w, h, grow(rootOf(w, h))}
}

// combine is what becomes of two trees, leaf by leaf.
func combine(a, b node, become func(x, y bool) bool) node {
	x, ok := a.(leaf)
	y, also := b.(leaf)
	if ok && also {
		return leaf(become(bool(x), bool(y)))
	}
	var kids [4]node
	for i := range kids {
		kids[i] = combine(a.kid(i), b.kid(i), become)
	}
	return join(kids)
}

// walk visits all nodes, in the order of their signs.
func walk(n node, s square, visit func(n node, s square)) {
	visit(n, s)
	switch f := n.(type) {
	case leaf:
	case *fork:
		for i, quarter := range s.quarters() {
			walk(f.kids[i], quarter, visit)
		}
	}
}
