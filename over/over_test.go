package over

import (
	"math"
	"slices"
	"testing"

	"hachure/api"
	"hachure/grid"
	"hachure/paint"
	"hachure/pyr"
	"hachure/rect"
	"hachure/sample"
)

var R, C = sample.Rect, sample.Cell

// P28.1, P28.2: against the cells, one by one.
func TestAgainstCells(t *testing.T) {
	d := sample.New(27)
	for range 200 {
		w, h := d.Between(1, 40), d.Between(1, 40)
		span := d.Upto(9)
		g, _ := paint.From(w, h, d.Values(int(w*h), -span, span))
		p, _ := pyr.Build(g)
		for range 8 {
			r, lo, hi, most := d.Rect(w, h), d.Between(-10, 10), d.Between(-10, 10), int(d.Between(-1, 30))
			var over []api.Cell
			between := int64(0)
			for i := range rect.Area(r) {
				c, _ := rect.Nth(r, i)
				v, _ := g.At(c)
				if v >= lo {
					over = append(over, c)
				}
				if v >= lo && v <= hi {
					between++
				}
			}
			if n, e := Count(p, r, lo); n != int64(len(over)) || e != api.Fine {
				t.Fatal(r, lo, n, e)
			}
			if n, e := Between(p, r, lo, hi); n != between || e != api.Fine {
				t.Fatal(r, lo, hi, n, e)
			}
			if l, e := Cells(p, r, lo, math.MaxInt); !slices.Equal(l, over) || e != api.Fine {
				t.Fatal(r, lo, l, e)
			}
			if l, e := Cells(p, r, lo, most); !slices.Equal(l, over[:min(max(most, 0), len(over))]) || e != api.Fine {
				t.Fatal(r, lo, most, l, e)
			}
		}
	}
}

// P28.1, P28.2: numbers at their ends.
func TestEnds(t *testing.T) {
	g, _ := paint.From(3, 1, []int64{3, 1, 2})
	p, _ := pyr.Build(g)
	for _, c := range []struct{ lo, hi, n int64 }{
		{2, math.MaxInt64, 2}, {math.MinInt64, math.MaxInt64, 3}, {math.MaxInt64, math.MinInt64, 0}, {math.MaxInt64, math.MaxInt64, 0}, {math.MinInt64, math.MinInt64, 0}, {2, 1, 0}, {1, 2, 2}, {2, 2, 1},
	} {
		if n, e := Between(p, g.All(), c.lo, c.hi); n != c.n || e != api.Fine {
			t.Error(c, n, e)
		}
	}
	if n, _ := Count(p, g.All(), math.MinInt64); n != 3 {
		t.Error(n)
	}
	for _, most := range []int{0, -1, math.MinInt} {
		if l, e := Cells(p, g.All(), 0, most); len(l) != 0 || e != api.Fine {
			t.Error(most, l, e)
		}
	}
}

// P28.1, P28.2: each error in its order.
func TestErrors(t *testing.T) {
	g, _ := grid.New(3, 2, 5)
	p, _ := pyr.Build(g)
	for _, c := range []struct {
		p *pyr.Pyr
		r api.Rect
		e api.Code
	}{{nil, R(1, 0, 0, 0), api.Nil}, {&pyr.Pyr{}, R(1, 0, 0, 0), api.Nil}, {p, R(3, 0, 2, 0), api.Place}, {p, R(0, 0, 0, 2), api.Place}, {p, R(1, 0, 0, 0), api.Turned}} {
		n, e := Count(c.p, c.r, 0)
		b, e2 := Between(c.p, c.r, 1, 0)
		l, e3 := Cells(c.p, c.r, 0, -1)
		if n != 0 || b != 0 || l != nil || e != c.e || e2 != c.e || e3 != c.e {
			t.Error(c.r, n, e, b, e2, l, e3)
		}
	}
}
