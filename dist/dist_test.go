package dist

import (
	"math"
	"slices"
	"testing"

	"hachure/api"
	"hachure/grid"
	"hachure/paint"
	"hachure/sample"
)

var C = sample.Cell

// plain looks at all cells over t: the nearest one, the first of several, and how far it is.
func plain(g *grid.Grid, c api.Cell, t int64) (api.Cell, int64, bool) {
	w, h := g.Size()
	best, at, found := int64(0), api.Cell{}, false
	for i := range w * h {
		o := C(i%w, i/w)
		far := max(o.X-c.X, c.X-o.X) + max(o.Y-c.Y, c.Y-o.Y)
		if v, _ := g.At(o); v >= t && (!found || far < best) {
			best, at, found = far, o, true
		}
	}
	return at, best, found
}

// P43.1, P43.2: against all cells, one by one.
func TestAgainstCells(t *testing.T) {
	d := sample.New(44)
	for range 300 {
		w, h := d.Between(1, 14), d.Between(1, 14)
		g, _ := paint.From(w, h, d.Values(int(w*h), 0, d.Between(1, 60)))
		lim, n := d.Between(1, 60), d.Between(-1, 8)
		var want []int64
		var within []api.Cell
		most, at, any := int64(-1), api.Cell{}, false
		for i := range w * h {
			c := C(i%w, i/w)
			near, far, ok := plain(g, c, lim)
			if got, k, found, e := Nearest(g, c, lim); got != near || k != far || found != ok || e != api.Fine {
				t.Fatal(c, got, k, found, e, near, far, ok)
			}
			if !ok {
				far = -1
			}
			want = append(want, far)
			if ok && far <= n {
				within = append(within, c)
			}
			if ok && far > most {
				most, at, any = far, c, true
			}
		}
		if l, e := To(g, lim); !slices.Equal(l, want) || e != api.Fine {
			t.Fatal(l, want, e)
		}
		if l, e := Within(g, lim, n); !slices.Equal(l, within) || e != api.Fine {
			t.Fatal(l, within, e)
		}
		if c, k, ok, e := Farthest(g, lim); c != at || k != max(most, 0) || ok != any || e != api.Fine {
			t.Fatal(c, k, ok, e, at, most)
		}
	}
}

// P43.1, P43.2: the example, numbers at their ends, and none at all.
func TestRow(t *testing.T) {
	g, _ := paint.From(4, 1, []int64{0, 9, 0, 0})
	if l, e := To(g, 5); !slices.Equal(l, []int64{1, 0, 1, 2}) || e != api.Fine {
		t.Error(l, e)
	}
	if c, n, ok, e := Farthest(g, 5); c != C(3, 0) || n != 2 || !ok || e != api.Fine {
		t.Error(c, n, ok, e)
	}
	if c, n, ok, e := Farthest(g, math.MinInt64); c != C(0, 0) || n != 0 || !ok || e != api.Fine {
		t.Error(c, n, ok, e)
	}
	if l, e := Within(g, 5, math.MaxInt64); len(l) != 4 || e != api.Fine {
		t.Error(l, e)
	}
	if l, e := Within(g, 10, math.MaxInt64); len(l) != 0 || e != api.Fine {
		t.Error(l, e)
	}
	if l, e := Within(g, 5, math.MinInt64); len(l) != 0 || e != api.Fine {
		t.Error(l, e)
	}
	if l, e := To(g, math.MaxInt64); !slices.Equal(l, []int64{-1, -1, -1, -1}) || e != api.Fine {
		t.Error(l, e)
	}
	if c, n, ok, e := Nearest(g, C(0, 0), 10); c != (api.Cell{}) || n != 0 || ok || e != api.Fine {
		t.Error(c, n, ok, e)
	}
	if c, n, ok, e := Farthest(g, 10); c != (api.Cell{}) || n != 0 || ok || e != api.Fine {
		t.Error(c, n, ok, e)
	}
}

// P43.1, P43.2: each error.
func TestErrors(t *testing.T) {
	g, _ := grid.New(2, 1, 0)
	for _, g := range []*grid.Grid{nil, {}} {
		l, e := To(g, 0)
		c, n, ok, e2 := Nearest(g, C(9, 9), 0)
		w, e3 := Within(g, 0, 9)
		f, m, any, e4 := Farthest(g, 0)
		if l != nil || w != nil || c != f || n != m || ok || any || e != api.Nil || e2 != api.Nil || e3 != api.Nil || e4 != api.Nil {
			t.Error(e, e2, e3, e4)
		}
	}
	for _, c := range []api.Cell{C(2, 0), C(0, 1), C(-1, 0), C(math.MinInt64, math.MaxInt64)} {
		if at, n, ok, e := Nearest(g, c, 0); at != (api.Cell{}) || n != 0 || ok || e != api.Place {
			t.Error(c, e)
		}
	}
}
