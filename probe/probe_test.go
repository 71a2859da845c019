package probe

import (
	"math"
	"testing"

	"hachure/api"
	"hachure/grid"
	"hachure/paint"
	"hachure/pyr"
	"hachure/rect"
	"hachure/sample"
)

var R, C = sample.Rect, sample.Cell

// plain looks for the least, the greatest, and the first over t, cell by cell.
func plain(g *grid.Grid, r api.Rect, t int64) (least, most, over api.Cell, found bool) {
	least, _ = rect.Nth(r, 0)
	most = least
	for i := range rect.Area(r) {
		c, _ := rect.Nth(r, i)
		v, _ := g.At(c)
		lo, _ := g.At(least)
		hi, _ := g.At(most)
		if v < lo {
			least = c
		}
		if v > hi {
			most = c
		}
		if v >= t && !found {
			over, found = c, true
		}
	}
	return least, most, over, found
}

// P17.1, P17.2: against what the cells tell, one by one.
func TestAgainstCells(t *testing.T) {
	d := sample.New(12)
	for range 300 {
		w, h := d.Between(1, 40), d.Between(1, 40)
		span := d.Between(0, 9)
		g, _ := paint.From(w, h, d.Values(int(w*h), -span, span))
		p, _ := pyr.Build(g)
		for range 8 {
			r, lim := d.Rect(w, h), d.Between(-10, 10)
			least, most, over, found := plain(g, r, lim)
			lo, _ := g.At(least)
			hi, _ := g.At(most)
			if rg, e := Range(p, r); e != api.Fine || rg != (api.Range{Min: lo, Max: hi}) {
				t.Fatal(r, rg, e)
			}
			if v, c, e := Least(p, r); v != lo || c != least || e != api.Fine {
				t.Fatal(r, v, c, e, least)
			}
			if v, c, e := Most(p, r); v != hi || c != most || e != api.Fine {
				t.Fatal(r, v, c, e, most)
			}
			if c, ok, e := First(p, r, lim); c != over || ok != found || e != api.Fine {
				t.Fatal(r, lim, c, ok, e, over)
			}
		}
	}
}

// P17.1, P17.2: numbers at their ends.
func TestEnds(t *testing.T) {
	g, _ := paint.From(3, 1, []int64{3, 1, 1})
	p, _ := pyr.Build(g)
	if v, c, e := Least(p, g.All()); v != 1 || c != C(1, 0) || e != api.Fine {
		t.Error(v, c, e)
	}
	if c, ok, e := First(p, R(1, 0, 2, 0), math.MinInt64); c != C(1, 0) || !ok || e != api.Fine {
		t.Error(c, ok, e)
	}
	if c, ok, e := First(p, g.All(), math.MaxInt64); c != (api.Cell{}) || ok || e != api.Fine {
		t.Error(c, ok, e)
	}
	if c, ok, _ := First(p, g.All(), 3); c != C(0, 0) || !ok {
		t.Error(c, ok)
	}
	ends, _ := paint.From(2, 1, []int64{api.MinValue, api.MaxValue})
	q, _ := pyr.Build(ends)
	if rg, _ := Range(q, R(0, 0, 0, 0)); rg != (api.Range{Min: api.MinValue, Max: api.MinValue}) {
		t.Error(rg)
	}
	if rg, _ := Range(q, R(1, 0, 1, 0)); rg != (api.Range{Min: api.MaxValue, Max: api.MaxValue}) {
		t.Error(rg)
	}
}

// P17.1, P17.2: each error in its order.
func TestErrors(t *testing.T) {
	g, _ := grid.New(3, 2, 5)
	p, _ := pyr.Build(g)
	for _, c := range []struct {
		p *pyr.Pyr
		r api.Rect
		e api.Code
	}{{nil, R(1, 0, 0, 0), api.Nil}, {&pyr.Pyr{}, R(1, 0, 0, 0), api.Nil}, {p, R(3, 0, 2, 0), api.Place}, {p, R(0, 0, 0, 2), api.Place}, {p, R(1, 0, 0, 0), api.Turned}, {p, R(math.MinInt64, 0, math.MaxInt64, 0), api.Place}} {
		rg, e := Range(c.p, c.r)
		v, at, e2 := Least(c.p, c.r)
		u, to, e3 := Most(c.p, c.r)
		first, ok, e4 := First(c.p, c.r, 0)
		if e != c.e || e2 != c.e || e3 != c.e || e4 != c.e || rg != (api.Range{}) || v != 0 || u != 0 || at != (api.Cell{}) || to != at || first != at || ok {
			t.Error(c.r, e, e2, e3, e4)
		}
	}
}
