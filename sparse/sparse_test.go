package sparse

import (
	"math"
	"slices"
	"testing"

	"hachure/api"
	"hachure/grid"
	"hachure/paint"
	"hachure/sample"
)

var R, C = sample.Rect, sample.Cell

// P21.1, P21.2: squares and rectangles, of the grid as it was.
func TestAgainstCells(t *testing.T) {
	d := sample.New(18)
	for range 100 {
		w, h := d.Between(1, 40), d.Between(1, 40)
		g, _ := paint.From(w, h, d.Values(int(w*h), -90, 90))
		was := g.Copy()
		table, e := Build(g)
		g.Fill(g.All(), 1000)
		if tw, th := table.Size(); tw != w || th != h || e != api.Fine {
			t.Fatal(tw, th, e)
		}
		check := func(r api.Rect, rg api.Range, e api.Code) {
			l, _ := was.Values(r)
			if e != api.Fine || rg.Min != slices.Min(l) || rg.Max != slices.Max(l) {
				t.Fatal(r, rg, e)
			}
		}
		for k := range table.Steps() {
			side := int64(1) << k
			if side > min(w, h) {
				t.Fatal("too many steps")
			}
			c := d.Cell(w-side+1, h-side+1)
			rg, e := table.Square(k, c)
			check(R(c.X, c.Y, c.X+side-1, c.Y+side-1), rg, e)
		}
		if int64(1)<<table.Steps() <= min(w, h) {
			t.Fatal("too few steps")
		}
		for range 12 {
			r := d.Rect(w, h)
			rg, e := table.Range(r)
			check(r, rg, e)
		}
	}
	g, _ := paint.From(2, 1, []int64{api.MinValue, api.MaxValue})
	table, _ := Build(g)
	if rg, _ := table.Range(g.All()); rg != (api.Range{Min: api.MinValue, Max: api.MaxValue}) {
		t.Error(rg)
	}
}

// P21.1: which squares there are.
func TestSquare(t *testing.T) {
	g, _ := grid.New(5, 3, 4)
	table, _ := Build(g)
	if n := table.Steps(); n != 2 {
		t.Error(n)
	}
	for _, c := range []struct {
		k int
		c api.Cell
		e api.Code
	}{
		{1, C(3, 0), api.Fine}, {1, C(3, 1), api.Fine}, {1, C(4, 1), api.Place}, {1, C(3, 2), api.Place}, {0, C(4, 2), api.Fine}, {0, C(5, 0), api.Place}, {0, C(-1, 0), api.Place},
		{2, C(-1, 0), api.Arg}, {-1, C(0, 0), api.Arg}, {math.MaxInt, C(0, 0), api.Arg}, {1, C(math.MaxInt64, math.MinInt64), api.Place},
	} {
		rg, e := table.Square(c.k, c.c)
		if e != c.e || (e == api.Fine) != (rg == api.Range{Min: 4, Max: 4}) || e != api.Fine && rg != (api.Range{}) {
			t.Error(c, rg, e)
		}
	}
	for _, c := range []struct{ w, h, n int64 }{{1, 1, 1}, {1024, 1, 1}, {4, 4, 3}, {7, 9, 3}, {64, 8, 4}} {
		g, _ := grid.New(c.w, c.h, 0)
		if table, _ := Build(g); int64(table.Steps()) != c.n {
			t.Error(c, table.Steps())
		}
	}
}

// P21.2: each error in its order.
func TestErrors(t *testing.T) {
	g, _ := grid.New(3, 2, 1)
	table, _ := Build(g)
	for _, c := range []struct {
		r api.Rect
		e api.Code
	}{{R(0, 0, 3, 0), api.Place}, {R(3, 0, 2, 0), api.Place}, {R(1, 0, 0, 0), api.Turned}, {R(0, 1, 0, 0), api.Turned}} {
		if rg, e := table.Range(c.r); rg != (api.Range{}) || e != c.e {
			t.Error(c, rg, e)
		}
	}
	for _, table := range []*Table{nil, {}} {
		w, h := table.Size()
		s, e := table.Square(-1, C(-1, 0))
		rg, e2 := table.Range(R(1, 0, 0, 0))
		if w != 0 || h != 0 || table.Steps() != 0 || s != rg || rg != (api.Range{}) || e != api.Nil || e2 != api.Nil {
			t.Error("nil")
		}
	}
	if table, e := Build(nil); table != nil || e != api.Nil {
		t.Error(e)
	}
}
