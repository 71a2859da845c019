package regions

import (
	"math"
	"slices"
	"testing"

	"hachure/api"
	"hachure/grid"
	"hachure/paint"
	"hachure/rect"
	"hachure/sample"
)

var R, C = sample.Rect, sample.Cell

func land2(w, h int64, l ...int64) *grid.Grid {
	g, _ := paint.From(w, h, l)
	return g
}

// reach tells which cells can be reached from one over t, by going on till nothing more is found.
func reach(g *grid.Grid, from api.Cell, t int64) map[api.Cell]bool {
	found := map[api.Cell]bool{}
	if v, _ := g.At(from); v < t {
		return found
	}
	found[from] = true
	for grown := true; grown; {
		grown = false
		w, h := g.Size()
		for i := range w * h {
			c := C(i%w, i/w)
			v, _ := g.At(c)
			near := found[C(c.X-1, c.Y)] || found[C(c.X+1, c.Y)] || found[C(c.X, c.Y-1)] || found[C(c.X, c.Y+1)]
			if v >= t && !found[c] && near {
				found[c], grown = true, true
			}
		}
	}
	return found
}

// P29.1: the example, and lands of one kind.
func TestOf(t *testing.T) {
	g := land2(2, 2, 1, 0, 0, 1)
	l, parts, e := Of(g, 1)
	if e != api.Fine || !slices.Equal(l, []int64{1, 0, 0, 2}) || !slices.Equal(parts, []api.Part{{Label: 1, Area: 1, First: C(0, 0), Box: R(0, 0, 0, 0)}, {Label: 2, Area: 1, First: C(1, 1), Box: R(1, 1, 1, 1)}}) {
		t.Error(l, parts, e)
	}
	for _, low := range []int64{0, math.MinInt64} {
		if l, parts, e := Of(g, low); e != api.Fine || !slices.Equal(l, []int64{1, 1, 1, 1}) || !slices.Equal(parts, []api.Part{{Label: 1, Area: 4, Box: R(0, 0, 1, 1)}}) {
			t.Error(l, parts, e)
		}
	}
	if l, parts, e := Of(g, math.MaxInt64); e != api.Fine || !slices.Equal(l, []int64{0, 0, 0, 0}) || len(parts) != 0 {
		t.Error(l, parts, e)
	}
}

// P29.1, P29.2: against reaching, cell by cell.
func TestAgainstReach(t *testing.T) {
	d := sample.New(28)
	for range 150 {
		w, h := d.Between(1, 12), d.Between(1, 12)
		g := land2(w, h, d.Values(int(w*h), 0, 3)...)
		lim := d.Between(0, 4)
		labels, parts, e := Of(g, lim)
		if e != api.Fine {
			t.Fatal(e)
		}
		known := int64(0)
		for i := range w * h {
			c := C(i%w, i/w)
			cells := reach(g, c, lim)
			if (len(cells) == 0) != (labels[i] == 0) {
				t.Fatal(c, labels[i])
			}
			if l, e := Flood(g, c, lim); len(l) != len(cells) || e != api.Fine || !sorted(l, cells) {
				t.Fatal(c, l, e)
			}
			if labels[i] > known {
				known++
				checkPart(t, parts[known-1], known, c, cells)
			}
			for other := range cells {
				if labels[other.Y*w+other.X] != labels[i] {
					t.Fatal(c, other)
				}
			}
		}
		if known != int64(len(parts)) {
			t.Fatal(known, parts)
		}
		a, b := d.Cell(w, h), d.Cell(w, h)
		joined, e := Joined(g, a, b)
		if e != api.Fine || !reach(g, a, joined)[b] || reach(g, a, joined+1)[b] {
			t.Fatal(a, b, joined, e)
		}
	}
}

func sorted(l []api.Cell, cells map[api.Cell]bool) bool {
	for i, c := range l {
		if !cells[c] || i > 0 && (c.Y < l[i-1].Y || c.Y == l[i-1].Y && c.X <= l[i-1].X) {
			return false
		}
	}
	return true
}

func checkPart(t *testing.T, p api.Part, label int64, first api.Cell, cells map[api.Cell]bool) {
	t.Helper()
	box := R(first.X, first.Y, first.X, first.Y)
	for c := range cells {
		box = rect.Hull(box, R(c.X, c.Y, c.X, c.Y))
	}
	if p != (api.Part{Label: label, Area: int64(len(cells)), First: first, Box: box}) {
		t.Fatal(p, label, first, len(cells), box)
	}
}

// P29.2: of one cell, and of cells far apart.
func TestJoined(t *testing.T) {
	g := land2(5, 1, 9, 3, 7, 1, 8)
	for _, c := range []struct{ a, b, n int64 }{{0, 0, 9}, {0, 2, 3}, {2, 0, 3}, {0, 4, 1}, {1, 1, 3}, {3, 4, 1}} {
		if n, e := Joined(g, C(c.a, 0), C(c.b, 0)); n != c.n || e != api.Fine {
			t.Error(c, n, e)
		}
	}
}

// P29.1, P29.2: each error.
func TestErrors(t *testing.T) {
	g := land2(2, 1, 0, 0)
	for _, g := range []*grid.Grid{nil, {}} {
		l, parts, e := Of(g, 0)
		cells, e2 := Flood(g, C(9, 9), 0)
		n, e3 := Joined(g, C(9, 9), C(0, 0))
		if l != nil || parts != nil || cells != nil || n != 0 || e != api.Nil || e2 != api.Nil || e3 != api.Nil {
			t.Error(e, e2, e3)
		}
	}
	for _, c := range []api.Cell{C(2, 0), C(0, 1), C(-1, 0), C(math.MinInt64, math.MaxInt64)} {
		cells, e := Flood(g, c, 9)
		n, e2 := Joined(g, c, C(0, 0))
		m, e3 := Joined(g, C(0, 0), c)
		if cells != nil || n != 0 || m != 0 || e != api.Place || e2 != api.Place || e3 != api.Place {
			t.Error(c, e, e2, e3)
		}
	}
}
