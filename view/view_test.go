package view

import (
	"math"
	"slices"
	"testing"

	"hachure/api"
	"hachure/grid"
	"hachure/paint"
	"hachure/pyr"
	"hachure/sample"
	"hachure/sight"
)

var C = sample.Cell

// plain asks each cell of the grid.
func plain(g *grid.Grid, a api.Cell, ha, hb, n int64) []api.Cell {
	w, h := g.Size()
	var seen []api.Cell
	for i := range w * h {
		c := C(i%w, i/w)
		dx, dy := max(c.X-a.X, a.X-c.X), max(c.Y-a.Y, a.Y-c.Y)
		if ok, _, _ := sight.Clear(g, a, ha, c, hb); ok && dx <= n && dy <= n {
			seen = append(seen, c)
		}
	}
	return seen
}

// P27.1, P27.2, P27.3: against sight, cell by cell; views grow with their radius.
func TestAgainstSight(t *testing.T) {
	d := sample.New(26)
	for range 80 {
		w, h := d.Between(1, 24), d.Between(1, 24)
		g, _ := paint.From(w, h, d.Values(int(w*h), 0, d.Between(0, 9)))
		p, _ := pyr.Build(g)
		a, b, ha, hb, n := d.Cell(w, h), d.Cell(w, h), d.Upto(9), d.Upto(9), d.Upto(14)
		want := plain(g, a, ha, hb, n)
		l, e := From(p, a, ha, hb, n)
		if !slices.Equal(l, want) || e != api.Fine || !slices.Contains(l, a) {
			t.Fatal(a, l, e, want)
		}
		if k, e := Count(p, a, ha, hb, n); k != int64(len(want)) || e != api.Fine {
			t.Fatal(k, e)
		}
		greater, _ := From(p, a, ha, hb, n+1)
		for _, c := range l {
			if !slices.Contains(greater, c) {
				t.Fatal(c)
			}
		}
		other := plain(g, b, ha, 0, n)
		both := slices.DeleteFunc(plain(g, a, ha, 0, n), func(c api.Cell) bool { return !slices.Contains(other, c) })
		if l, e := Both(p, a, b, ha, n); !slices.Equal(l, both) || e != api.Fine {
			t.Fatal(a, b, l, e, both)
		}
	}
}

// P27.1: the example, and far radii.
func TestRow(t *testing.T) {
	g, _ := paint.From(3, 1, []int64{0, 5, 0})
	p, _ := pyr.Build(g)
	for _, n := range []int64{2, api.MaxReach} {
		if l, e := From(p, C(0, 0), 0, 0, n); !slices.Equal(l, []api.Cell{C(0, 0), C(1, 0)}) || e != api.Fine {
			t.Error(l, e)
		}
	}
	if l, e := From(p, C(0, 0), api.MaxHeight, api.MaxHeight, 0); len(l) != 1 || e != api.Fine {
		t.Error(l, e)
	}
	if l, e := Both(p, C(0, 0), C(1, 0), api.MaxHeight, 2); len(l) != 3 || e != api.Fine {
		t.Error(l, e)
	}
	if l, e := Both(p, C(0, 0), C(2, 0), 0, 0); len(l) != 0 || e != api.Fine {
		t.Error(l, e)
	}
	if l, e := Both(p, C(0, 0), C(2, 0), 0, 1); !slices.Equal(l, []api.Cell{C(1, 0)}) || e != api.Fine {
		t.Error(l, e)
	}
}

// P27.1, P27.2: each error in its order.
func TestErrors(t *testing.T) {
	g, _ := paint.From(3, 1, []int64{0, 5, 0})
	p, _ := pyr.Build(g)
	for _, c := range []struct {
		p         *pyr.Pyr
		a         api.Cell
		ha, hb, n int64
		e         api.Code
	}{
		{nil, C(9, 9), -1, 0, -1, api.Nil}, {&pyr.Pyr{}, C(0, 0), 0, 0, 0, api.Nil}, {p, C(3, 0), -1, 0, -1, api.Place}, {p, C(0, -1), 0, 0, 0, api.Place},
		{p, C(0, 0), -1, 0, -1, api.Height}, {p, C(0, 0), 0, api.MaxHeight + 1, -1, api.Height}, {p, C(0, 0), math.MaxInt64, 0, 0, api.Height},
		{p, C(0, 0), 0, 0, -1, api.Reach}, {p, C(0, 0), 0, 0, api.MaxReach + 1, api.Reach}, {p, C(0, 0), 0, 0, math.MaxInt64, api.Reach},
	} {
		l, e := From(c.p, c.a, c.ha, c.hb, c.n)
		k, e2 := Count(c.p, c.a, c.ha, c.hb, c.n)
		if l != nil || k != 0 || e != c.e || e2 != c.e {
			t.Error(c, l, k, e, e2)
		}
		if c.hb == 0 {
			both, e := Both(c.p, c.a, C(0, 0), c.ha, c.n)
			turned, e2 := Both(c.p, C(0, 0), c.a, c.ha, c.n)
			if both != nil || turned != nil || e != c.e || e2 != c.e {
				t.Error(c, both, e, turned, e2)
			}
		}
	}
}
