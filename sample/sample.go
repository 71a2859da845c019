// Package sample makes small things for the tests of the other packages: rectangles, cells, and numbers that look thrown but are the same each time.
package sample

import (
	"hachure/api"
)

// Rect: by its four numbers.
func Rect(x0, y0, x1, y1 int64) api.Rect {
	return api.Rect{X0: x0, Y0: y0, X1: x1, Y1: y1}
}

// Cell: by its two numbers.
func Cell(x, y int64) api.Cell {
	return api.Cell{X: x, Y: y}
}

// Dice throws numbers, in a row that hangs on the seed alone.
type Dice struct{ state uint64 }

// New: dice of a seed.
func New(seed uint64) *Dice {
	return &Dice{state: seed}
}

// Upto: a number from 0 to below n (n from 1 on).
func (d *Dice) Upto(n int64) int64 {
	d.state = d.state*6364136223846793005 + 1442695040888963407
	x := d.state
	x ^= x >> 33
	x *= 0xff51afd7ed558ccd
	x ^= x >> 33
	return int64(x % uint64(n))
}

// Between: a number from lo to hi.
func (d *Dice) Between(lo, hi int64) int64 {
	return lo + d.Upto(hi-lo+1)
}

// Values: n numbers from lo to hi.
func (d *Dice) Values(n int, lo, hi int64) []int64 {
	l := make([]int64, n)
	for i := range l {
		l[i] = d.Between(lo, hi)
	}
	return l
}

// Cell: one of a grid of w columns and h rows.
func (d *Dice) Cell(w, h int64) api.Cell {
	x := d.Upto(w)
	return api.Cell{X: x, Y: d.Upto(h)}
}

// Rect: a right one in a grid of w columns and h rows.
func (d *Dice) Rect(w, h int64) api.Rect {
	a, b := d.Cell(w, h), d.Cell(w, h)
	return Rect(min(a.X, b.X), min(a.Y, b.Y), max(a.X, b.X), max(a.Y, b.Y))
}
