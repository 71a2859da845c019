package grid

import (
	"math"
	"slices"
	"testing"

	"hachure/api"
	"hachure/rect"
	"hachure/sample"
)

var R, C = sample.Rect, sample.Cell

// P9.1: what New takes, and each error in its order.
func TestNew(t *testing.T) {
	for _, c := range []struct {
		w, h, v int64
		e       api.Code
	}{
		{1, 1, 0, api.Fine}, {1024, 1024, api.MaxValue, api.Fine}, {17, 3, api.MinValue, api.Fine}, {0, 1, 1 << 40, api.Size}, {1, 1025, 1 << 40, api.Size},
		{1025, 1, 0, api.Size}, {-5, 1, 0, api.Size}, {1, math.MaxInt64, 0, api.Size}, {math.MinInt64, 1, 0, api.Size}, {20, 20, api.MaxValue + 1, api.Value}, {1, 1, api.MinValue - 1, api.Value},
	} {
		g, e := New(c.w, c.h, c.v)
		if e != c.e || (g == nil) != (e != api.Fine) {
			t.Error(c, e)
			continue
		}
		if g != nil {
			w, h := g.Size()
			v, _ := g.At(C(w-1, h-1))
			if w != c.w || h != c.h || v != c.v || g.All() != R(0, 0, w-1, h-1) {
				t.Error(c, w, h, v, g.All())
			}
		}
	}
}

// P9.1: a copy goes its own way; what is the same.
func TestCopySame(t *testing.T) {
	g, _ := New(20, 18, 3)
	c := g.Copy()
	if !Same(g, c) || !Same(g, g) {
		t.Error("same")
	}
	g.Set(C(19, 17), 4)
	if v, _ := c.At(C(19, 17)); v != 3 || Same(g, c) {
		t.Error("copy", v)
	}
	c.Set(C(19, 17), 4)
	if !Same(g, c) {
		t.Error("same cells")
	}
	c.Set(C(0, 0), 1)
	if v, _ := g.At(C(0, 0)); v != 3 || Same(c, g) {
		t.Error("copy", v)
	}
	other, _ := New(18, 20, 3)
	small, _ := New(20, 17, 3)
	for _, o := range []*Grid{nil, other, small} {
		if Same(g, o) || Same(o, g) {
			t.Error(o.Size())
		}
	}
	fours, _ := New(20, 18, 4)
	if Same(fours, g.Copy()) || Same(c, fours) {
		t.Error("other values")
	}
	threes, _ := New(20, 18, 3)
	if Same(threes, fours) {
		t.Error("both flat")
	}
	var none *Grid
	if !Same(nil, nil) || none.Copy() != nil {
		t.Error("nil")
	}
}

// P9.2, P9.3: cells, fills, values and flat tiles against a plain list.
func TestAgainstList(t *testing.T) {
	d := sample.New(2)
	for range 60 {
		w, h := d.Between(1, 40), d.Between(1, 40)
		g, _ := New(w, h, 0)
		l := make([]int64, w*h)
		for range 20 {
			v := d.Between(0, 1) * d.Between(-3, 3)
			r := d.Rect(w, h)
			if d.Upto(2) == 0 {
				r.X1, r.Y1 = r.X0, r.Y0
				if e := g.Set(C(r.X0, r.Y0), v); e != api.Fine {
					t.Fatal(e)
				}
			} else if e := g.Fill(r, v); e != api.Fine {
				t.Fatal(e)
			}
			for i := range rect.Area(r) {
				c, _ := rect.Nth(r, i)
				l[c.Y*w+c.X] = v
			}
			checkList(t, g, l, d.Rect(w, h))
		}
	}
}

func checkList(t *testing.T, g *Grid, l []int64, r api.Rect) {
	t.Helper()
	of := func(r api.Rect) []int64 {
		w, _ := g.Size()
		var out []int64
		for i := range rect.Area(r) {
			c, _ := rect.Nth(r, i)
			out = append(out, l[c.Y*w+c.X])
			if v, e := g.At(c); e != api.Fine || v != l[c.Y*w+c.X] {
				t.Fatal(c, v, e)
			}
		}
		return out
	}
	for _, r := range []api.Rect{r, g.All()} {
		if got, e := g.Values(r); e != api.Fine || !slices.Equal(got, of(r)) {
			t.Fatal(r, got, e)
		}
	}
	for i, p := range g.Tiles() {
		cells := of(p)
		v, flat := g.Flat(i)
		if flat != (slices.Min(cells) == slices.Max(cells)) || flat && v != cells[0] || !flat && v != 0 {
			t.Fatal(p, v, flat)
		}
	}
}

// P9.2: each error in its order; beside an error nothing changes.
func TestErrors(t *testing.T) {
	g, _ := New(33, 20, 4)
	was := g.Copy()
	for _, c := range []api.Cell{C(33, 0), C(0, 20), C(-1, 0), C(0, -1), C(math.MaxInt64, math.MinInt64)} {
		if v, e := g.At(c); v != 0 || e != api.Place {
			t.Error(c, v, e)
		}
		if e := g.Set(c, 1<<40); e != api.Place {
			t.Error(c, e)
		}
	}
	for _, v := range []int64{api.MaxValue + 1, api.MinValue - 1, math.MaxInt64, math.MinInt64} {
		if g.Set(C(0, 0), v) != api.Value || g.Fill(g.All(), v) != api.Value {
			t.Error(v)
		}
	}
	for _, c := range []struct {
		r api.Rect
		e api.Code
	}{{R(0, 0, 33, 0), api.Place}, {R(0, 5, 0, -1), api.Place}, {R(9, 0, 8, 20), api.Place}, {R(9, 0, 8, 0), api.Turned}, {R(0, 3, 0, 2), api.Turned}} {
		if e := g.Fill(c.r, 1<<40); e != c.e {
			t.Error(c, e)
		}
		if l, e := g.Values(c.r); e != c.e || l != nil {
			t.Error(c, e)
		}
	}
	if !Same(g, was) {
		t.Error("changed")
	}
	whole, _ := New(32, 32, 4)
	for _, c := range []api.Cell{C(32, 0), C(0, 32), C(48, 5), C(5, 48), C(-16, 5), C(5, -16), C(31, 32), C(32, 31)} {
		if v, e := whole.At(c); v != 0 || e != api.Place || whole.Set(c, 5) != api.Place {
			t.Error(c, v, e)
		}
	}
}

// P9.3: tiles in order, and which are flat.
func TestTiles(t *testing.T) {
	g, _ := New(17, 1, 6)
	if l := g.Tiles(); !slices.Equal(l, []api.Rect{R(0, 0, 15, 0), R(16, 0, 16, 0)}) {
		t.Error(l)
	}
	g.Set(C(16, 0), 9)
	for i, want := range []int64{6, 9} {
		if v, flat := g.Flat(i); v != want || !flat {
			t.Error(i, v, flat)
		}
	}
	for _, i := range []int{-1, 2, math.MinInt, math.MaxInt} {
		if v, flat := g.Flat(i); v != 0 || flat {
			t.Error(i, v, flat)
		}
	}
	g.Set(C(0, 0), 1)
	if v, flat := g.Flat(0); v != 0 || flat {
		t.Error(v, flat)
	}
}

func TestNil(t *testing.T) {
	for _, g := range []*Grid{nil, {}} {
		w, h := g.Size()
		v, e := g.At(C(0, 0))
		l, e2 := g.Values(R(1, 0, 0, 0))
		_, flat := g.Flat(0)
		if w != 0 || h != 0 || g.All() != (api.Rect{}) || v != 0 || e != api.Nil || l != nil || e2 != api.Nil || flat || len(g.Tiles()) != 0 {
			t.Error("nil")
		}
		if g.Set(C(-1, 0), 1<<40) != api.Nil || g.Fill(R(1, 0, 0, 0), 0) != api.Nil {
			t.Error("nil")
		}
	}
}
