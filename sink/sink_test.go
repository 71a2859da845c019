package sink

import (
	"math"
	"slices"
	"testing"

	"hachure/api"
	"hachure/grid"
	"hachure/paint"
	"hachure/sample"
)

var C = sample.Cell

// plainNext looks at the four sides, row by row.
func plainNext(g *grid.Grid, c api.Cell) (api.Cell, bool) {
	v, _ := g.At(c)
	w, h := g.Size()
	best, found := api.Cell{}, false
	for i := range w * h {
		n := C(i%w, i/w)
		apart := max(n.X-c.X, c.X-n.X) + max(n.Y-c.Y, c.Y-n.Y)
		u, _ := g.At(n)
		if b, _ := g.At(best); apart == 1 && u < v && (!found || u < b) {
			best, found = n, true
		}
	}
	return best, found
}

// P31.1, P31.2, P31.3: against the four sides of each cell.
func TestAgainstSides(t *testing.T) {
	d := sample.New(30)
	for range 150 {
		w, h := d.Between(1, 12), d.Between(1, 12)
		g, _ := paint.From(w, h, d.Values(int(w*h), 0, d.Between(0, 12)))
		labels, sinks, e := Basins(g)
		if e != api.Fine || int64(len(labels)) != w*h {
			t.Fatal(e)
		}
		wet := make([]int64, w*h)
		known := int64(0)
		for i := range w * h {
			c := C(i%w, i/w)
			want, goes := plainNext(g, c)
			if to, ok, e := Next(g, c); to != want || ok != goes || e != api.Fine {
				t.Fatal(c, to, ok, e)
			}
			way, e := Way(g, c)
			if e != api.Fine || way[0] != c {
				t.Fatal(c, way, e)
			}
			for j, at := range way {
				wet[at.Y*w+at.X]++
				next, goes := plainNext(g, at)
				if goes != (j < len(way)-1) || goes && next != way[j+1] {
					t.Fatal(c, way)
				}
			}
			known = max(known, labels[i])
			if labels[i] < 1 || labels[i] > int64(len(sinks)) || sinks[labels[i]-1] != way[len(way)-1] || labels[i] > known+1 {
				t.Fatal(c, labels[i], sinks)
			}
		}
		if known != int64(len(sinks)) || !firsts(labels) {
			t.Fatal(labels, sinks)
		}
		for i, n := range wet {
			if got, e := Wet(g, C(int64(i)%w, int64(i)/w)); got != n || e != api.Fine {
				t.Fatal(i, got, n, e)
			}
		}
	}
}

// firsts tells whether labels rise by their first cells.
func firsts(labels []int64) bool {
	known := int64(0)
	for _, l := range labels {
		if l > known+1 {
			return false
		}
		known = max(known, l)
	}
	return true
}

// P31.1, P31.2: the example; of several the first one; a flat land has sinks alone.
func TestSmall(t *testing.T) {
	g, _ := paint.From(3, 1, []int64{3, 1, 2})
	if l, sinks, e := Basins(g); !slices.Equal(l, []int64{1, 1, 1}) || !slices.Equal(sinks, []api.Cell{C(1, 0)}) || e != api.Fine {
		t.Error(l, sinks, e)
	}
	cross, _ := paint.From(3, 3, []int64{9, 1, 9, 1, 5, 1, 9, 1, 9})
	if to, ok, _ := Next(cross, C(1, 1)); to != C(1, 0) || !ok {
		t.Error(to, ok)
	}
	flat, _ := grid.New(2, 2, 7)
	if l, sinks, _ := Basins(flat); !slices.Equal(l, []int64{1, 2, 3, 4}) || len(sinks) != 4 {
		t.Error(l, sinks)
	}
	if to, ok, e := Next(flat, C(1, 1)); to != (api.Cell{}) || ok || e != api.Fine {
		t.Error(to, ok, e)
	}
}

// P31.2: ways as long as may be.
func TestLong(t *testing.T) {
	l := make([]int64, 1024)
	for i := range l {
		l[i] = int64(i)
	}
	g, _ := paint.From(1024, 1, l)
	if n, e := Wet(g, C(0, 0)); n != 1024 || e != api.Fine {
		t.Error(n, e)
	}
	if way, _ := Way(g, C(1023, 0)); len(way) != 1024 {
		t.Error(len(way))
	}
}

// P31.1, P31.2: each error.
func TestErrors(t *testing.T) {
	g, _ := grid.New(2, 1, 0)
	for _, c := range []struct {
		g *grid.Grid
		c api.Cell
		e api.Code
	}{{nil, C(9, 9), api.Nil}, {&grid.Grid{}, C(0, 0), api.Nil}, {g, C(2, 0), api.Place}, {g, C(0, 1), api.Place}, {g, C(-1, 0), api.Place}, {g, C(math.MinInt64, math.MaxInt64), api.Place}} {
		to, ok, e := Next(c.g, c.c)
		way, e2 := Way(c.g, c.c)
		n, e3 := Wet(c.g, c.c)
		if to != (api.Cell{}) || ok || way != nil || n != 0 || e != c.e || e2 != c.e || e3 != c.e {
			t.Error(c, e, e2, e3)
		}
	}
	if l, sinks, e := Basins(nil); l != nil || sinks != nil || e != api.Nil {
		t.Error(e)
	}
}
