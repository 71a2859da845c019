package horizon

import (
	"math"
	"math/big"
	"slices"
	"testing"

	"hachure/api"
	"hachure/grid"
	"hachure/paint"
	"hachure/sample"
	"hachure/slope"
)

var C = sample.Cell

// P48.1: directions, by a land of which each cell around the middle has another value.
func TestDirections(t *testing.T) {
	g, _ := paint.From(3, 3, []int64{8, 1, 2, 7, 0, 3, 6, 5, 4})
	at := []api.Cell{C(1, 0), C(2, 0), C(2, 1), C(2, 2), C(1, 2), C(0, 2), C(0, 1), C(0, 0)}
	for dir := range 8 {
		s, c, ok, e := Steepest(g, C(1, 1), 2, dir)
		if s != (slope.Slope{Up: int64(dir) - 1, On: 1}) || c != at[dir] || !ok || e != api.Fine {
			t.Error(dir, s, c, ok, e)
		}
	}
	if n, e := Open(g, C(1, 1), 2); n != 2 || e != api.Fine {
		t.Error(n, e)
	}
	corner, e := Around(g, C(0, 0), 0)
	if want := []slope.Slope{{}, {}, {Up: -6, On: 2}, {Up: -4, On: 2}, {Up: -1, On: 1}, {}, {}, {}}; !slices.Equal(corner, want) || e != api.Fine {
		t.Error(corner, e)
	}
	if n, e := Open(g, C(0, 0), 0); n != 8 || e != api.Fine {
		t.Error(n, e)
	}
	if s, c, ok, e := Steepest(g, C(0, 0), 0, 0); s != (slope.Slope{}) || c != (api.Cell{}) || ok || e != api.Fine {
		t.Error(s, c, ok, e)
	}
}

// P48.1, P48.2: against fractions, the first of several.
func TestAgainstFractions(t *testing.T) {
	d := sample.New(49)
	steps := []api.Cell{C(0, -1), C(1, -1), C(1, 0), C(1, 1), C(0, 1), C(-1, 1), C(-1, 0), C(-1, -1)}
	for range 200 {
		w, h := d.Between(1, 20), d.Between(1, 20)
		g, _ := paint.From(w, h, d.Values(int(w*h), -9, 9))
		c, high := d.Cell(w, h), d.Upto(12)
		v, _ := g.At(c)
		all, e := Around(g, c, high)
		open := 0
		for dir, step := range steps {
			var best slope.Slope
			at, found, rises := api.Cell{}, false, false
			for i := int64(1); i < 20; i++ {
				o := C(c.X+i*step.X, c.Y+i*step.Y)
				z, e := g.At(o)
				if e != api.Fine {
					break
				}
				s := slope.Slope{Up: z - v - high, On: i}
				if !found || big.NewRat(s.Up, s.On).Cmp(big.NewRat(best.Up, best.On)) > 0 {
					best, at, found = s, o, true
				}
				rises = rises || s.Up > 0
			}
			if !rises {
				open++
			}
			if s, o, ok, e := Steepest(g, c, high, dir); s != best || o != at || ok != found || e != api.Fine || all[dir] != best {
				t.Fatal(c, dir, s, o, ok, e, best, at)
			}
		}
		if n, e2 := Open(g, c, high); n != open || len(all) != 8 || e != api.Fine || e2 != api.Fine {
			t.Fatal(n, open, e, e2)
		}
	}
}

// P48.1, P48.2: the example, and heights at their ends.
func TestRow(t *testing.T) {
	g, _ := paint.From(3, 1, []int64{0, 2, 3})
	if s, c, ok, e := Steepest(g, C(0, 0), 0, 2); s != (slope.Slope{Up: 2, On: 1}) || c != C(1, 0) || !ok || e != api.Fine {
		t.Error(s, c, ok, e)
	}
	ends, _ := paint.From(2, 1, []int64{api.MaxValue, api.MinValue})
	if s, _, _, e := Steepest(ends, C(0, 0), api.MaxHeight, 2); s != (slope.Slope{Up: api.MinValue - api.MaxValue - api.MaxHeight, On: 1}) || e != api.Fine {
		t.Error(s, e)
	}
}

// P48.1, P48.2: each error in its order.
func TestErrors(t *testing.T) {
	g, _ := grid.New(3, 2, 0)
	for _, c := range []struct {
		g       *grid.Grid
		c       api.Cell
		h       int64
		dir     int
		e, both api.Code
	}{
		{nil, C(9, 9), -1, 9, api.Nil, api.Nil}, {&grid.Grid{}, C(0, 0), 0, 0, api.Nil, api.Nil}, {g, C(3, 0), -1, 9, api.Place, api.Place}, {g, C(0, -1), 0, 0, api.Place, api.Place}, {g, C(math.MinInt64, math.MaxInt64), 0, 0, api.Place, api.Place},
		{g, C(0, 0), -1, 9, api.Height, api.Height}, {g, C(0, 0), api.MaxHeight + 1, 0, api.Height, api.Height}, {g, C(0, 0), math.MaxInt64, 0, api.Height, api.Height},
		{g, C(0, 0), 0, 8, api.Arg, api.Fine}, {g, C(0, 0), 0, -1, api.Arg, api.Fine}, {g, C(0, 0), 0, math.MinInt, api.Arg, api.Fine},
	} {
		s, at, ok, e := Steepest(c.g, c.c, c.h, c.dir)
		l, e2 := Around(c.g, c.c, c.h)
		n, e3 := Open(c.g, c.c, c.h)
		if s != (slope.Slope{}) || at != (api.Cell{}) || ok || e != c.e || e2 != c.both || e3 != c.both || c.both != api.Fine && (l != nil || n != 0) {
			t.Error(c, s, at, ok, e, l, e2, n, e3)
		}
	}
}
