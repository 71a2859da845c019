package pyr

import (
	"math"
	"slices"
	"testing"

	"hachure/api"
	"hachure/grid"
	"hachure/paint"
	"hachure/sample"
	"hachure/tier"
)

var R, C = sample.Rect, sample.Cell

func land(d *sample.Dice, w, h int64) *grid.Grid {
	g, _ := paint.From(w, h, d.Values(int(w*h), -50, 50))
	return g
}

// P16.1: each cell of each level has the least and the greatest of its span.
func TestBuild(t *testing.T) {
	d := sample.New(9)
	for range 60 {
		w, h := d.Between(1, 40), d.Between(1, 40)
		g := land(d, w, h)
		p, e := Build(g)
		n, _ := tier.Levels(w, h)
		if pw, ph := p.Size(); pw != w || ph != h || e != api.Fine || p.Levels() != n {
			t.Fatal(pw, ph, e, p.Levels())
		}
		for k := range n {
			across, along, _ := tier.Size(w, h, k)
			for i := range across * along {
				c := C(i%across, i/across)
				r, _ := tier.Span(w, h, k, c)
				l, _ := g.Values(r)
				if rg, e := p.At(k, c); e != api.Fine || rg.Min != slices.Min(l) || rg.Max != slices.Max(l) {
					t.Fatal(k, c, rg, e)
				}
			}
		}
	}
	g, _ := paint.From(2, 1, []int64{api.MinValue, api.MaxValue})
	p, _ := Build(g)
	if rg, e := p.At(1, C(0, 0)); e != api.Fine || rg != (api.Range{Min: api.MinValue, Max: api.MaxValue}) {
		t.Error(rg, e)
	}
	g.Set(C(0, 0), 5)
	if rg, _ := p.At(0, C(0, 0)); rg.Min != api.MinValue {
		t.Error("goes with the grid")
	}
}

// P16.1: each error in its order.
func TestAtErrors(t *testing.T) {
	g, _ := paint.From(3, 1, []int64{3, 1, 2})
	p, _ := Build(g)
	for _, c := range []struct {
		k int
		c api.Cell
		e api.Code
	}{
		{-1, C(-1, 0), api.Arg}, {3, C(0, 0), api.Arg}, {math.MaxInt, C(9, 9), api.Arg}, {0, C(3, 0), api.Place}, {0, C(0, 1), api.Place},
		{1, C(2, 0), api.Place}, {2, C(1, 0), api.Place}, {0, C(-1, 0), api.Place}, {0, C(0, math.MinInt64), api.Place},
	} {
		if rg, e := p.At(c.k, c.c); e != c.e || rg != (api.Range{}) {
			t.Error(c, rg, e)
		}
	}
	if rg, e := p.At(2, C(0, 0)); e != api.Fine || rg != (api.Range{Min: 1, Max: 3}) {
		t.Error(rg, e)
	}
}

// P16.2: repairs, and each error in its order.
func TestRepairErrors(t *testing.T) {
	d := sample.New(10)
	g, other := land(d, 5, 4), land(d, 4, 5)
	p, _ := Build(g)
	was, _ := Build(g)
	g.Set(C(0, 0), 99)
	for _, c := range []struct {
		g *grid.Grid
		r api.Rect
		e api.Code
	}{
		{land(d, 5, 3), R(9, 0, 0, 0), api.Size}, {land(d, 6, 4), R(9, 0, 0, 0), api.Size}, {nil, R(9, 0, 0, 0), api.Nil}, {&grid.Grid{}, R(9, 0, 0, 0), api.Nil}, {other, R(9, 0, 0, 0), api.Size}, {g, R(5, 0, 0, 0), api.Place}, {g, R(0, 0, 0, 4), api.Place},
		{g, R(1, 0, 0, 0), api.Turned}, {g, R(math.MinInt64, 0, math.MaxInt64, 0), api.Place},
	} {
		if e := p.Repair(c.g, c.r); e != c.e {
			t.Error(c.r, e)
		}
	}
	if !Same(p, was) {
		t.Error("changed")
	}
}

// P16.3: repaired wherever the grid changed it is as built anew; what is the same.
func TestRepairSame(t *testing.T) {
	d := sample.New(11)
	for range 60 {
		w, h := d.Between(1, 40), d.Between(1, 40)
		g := land(d, w, h)
		p, _ := Build(g)
		for range 8 {
			was, _ := Build(g)
			if !Same(p, was) {
				t.Fatal("not as built anew")
			}
			r := d.Rect(w, h)
			g.Fill(r, d.Between(-90, 90))
			now, _ := Build(g)
			if old := Same(was, now); old != Same(p, now) {
				t.Fatal("goes with the grid")
			}
			if e := p.Repair(g, r); e != api.Fine {
				t.Fatal(e)
			}
		}
	}
	a, _ := Build(land(d, 4, 2))
	b, _ := Build(land(d, 2, 4))
	if Same(a, b) || Same(nil, a) || Same(a, nil) || !Same(nil, nil) {
		t.Error("same")
	}
	x, _ := grid.New(4, 1, 0)
	y, _ := grid.New(2, 2, 0)
	p, _ := Build(x)
	q, _ := Build(y)
	if Same(p, q) {
		t.Error("sizes")
	}
}

func TestNil(t *testing.T) {
	g, _ := grid.New(1, 1, 0)
	for _, p := range []*Pyr{nil, {}} {
		w, h := p.Size()
		rg, e := p.At(-1, C(0, 0))
		if w != 0 || h != 0 || p.Levels() != 0 || rg != (api.Range{}) || e != api.Nil || p.Repair(g, R(9, 0, 0, 0)) != api.Nil {
			t.Error("nil")
		}
	}
	if p, e := Build(nil); p != nil || e != api.Nil {
		t.Error("nil")
	}
}
