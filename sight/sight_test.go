package sight

import (
	"math"
	"math/big"
	"slices"
	"testing"

	"hachure/api"
	"hachure/grid"
	"hachure/paint"
	"hachure/ray"
	"hachure/sample"
)

var C = sample.Cell

func land(w, h int64, l ...int64) *grid.Grid {
	g, _ := paint.From(w, h, l)
	return g
}

// plain asks each cell strictly between both, by fractions.
func plain(g *grid.Grid, a api.Cell, ha int64, b api.Cell, hb int64) (bool, api.Cell) {
	row, _ := ray.Row(a, b)
	n := int64(len(row) - 1)
	va, _ := g.At(a)
	vb, _ := g.At(b)
	from, to := va+ha, vb+hb
	for i := int64(1); i < n; i++ {
		line := new(big.Rat).Add(big.NewRat(from, 1), new(big.Rat).Mul(big.NewRat(to-from, n), big.NewRat(i, 1)))
		z, _ := g.At(row[i])
		if big.NewRat(z, 1).Cmp(line) > 0 {
			return false, row[i]
		}
	}
	return true, api.Cell{}
}

// P25.1, P25.2: against fractions; the least height that is seen.
func TestAgainstFractions(t *testing.T) {
	d := sample.New(23)
	for range 400 {
		w, h := d.Between(1, 20), d.Between(1, 20)
		span := d.Between(1, 12)
		g := land(w, h, d.Values(int(w*h), -span, span)...)
		for range 5 {
			a, b, ha, hb := d.Cell(w, h), d.Cell(w, h), d.Upto(20), d.Upto(20)
			sees, at := plain(g, a, ha, b, hb)
			if ok, c, e := Clear(g, a, ha, b, hb); ok != sees || c != at || e != api.Fine {
				t.Fatal(a, ha, b, hb, ok, c, e)
			}
			lift, e := Lift(g, a, ha, b)
			if e != api.Fine || lift < 0 {
				t.Fatal(lift, e)
			}
			if ok, _ := plain(g, a, ha, b, lift); !ok {
				t.Fatal("too low", a, ha, b, lift)
			}
			if ok, _ := plain(g, a, ha, b, lift-1); ok && lift > 0 {
				t.Fatal("too high", a, ha, b, lift)
			}
			if ok, _ := plain(g, a, ha, b, lift+1); !ok {
				t.Fatal("higher, but not seen")
			}
		}
	}
}

// P25.1: the examples, the profile, and what hides first.
func TestRow(t *testing.T) {
	g := land(3, 1, 0, 5, 0)
	if ok, c, e := Clear(g, C(0, 0), 0, C(2, 0), 9); ok || c != C(1, 0) || e != api.Fine {
		t.Error(ok, c, e)
	}
	if ok, c, e := Clear(g, C(0, 0), 0, C(2, 0), 10); !ok || c != (api.Cell{}) || e != api.Fine {
		t.Error(ok, c, e)
	}
	if n, e := Lift(g, C(0, 0), 0, C(2, 0)); n != 10 || e != api.Fine {
		t.Error(n, e)
	}
	if n, e := Lift(g, C(0, 0), 20, C(2, 0)); n != 0 || e != api.Fine {
		t.Error(n, e)
	}
	if l, e := Profile(land(4, 2, 1, 2, 3, 4, 5, 6, 7, 8), C(0, 0), C(3, 1)); !slices.Equal(l, []int64{1, 2, 7, 8}) || e != api.Fine {
		t.Error(l, e)
	}
	steep := land(3, 1, api.MinValue, api.MaxValue, api.MinValue)
	if n, e := Lift(steep, C(0, 0), 0, C(2, 0)); n != 2*(api.MaxValue-api.MinValue) || e != api.Fine {
		t.Error(n, e)
	}
	hollow := land(3, 1, api.MaxValue, api.MinValue, api.MaxValue)
	if ok, _, e := Clear(hollow, C(0, 0), api.MaxHeight, C(2, 0), api.MaxHeight); !ok || e != api.Fine {
		t.Error(ok, e)
	}
}

// P25.1, P25.2: each error in its order.
func TestErrors(t *testing.T) {
	g := land(3, 1, 0, 5, 0)
	in := C(0, 0)
	for _, c := range []struct {
		g      *grid.Grid
		a      api.Cell
		ha     int64
		b      api.Cell
		hb     int64
		e, pro api.Code
	}{
		{nil, C(9, 9), -1, in, -1, api.Nil, api.Nil}, {&grid.Grid{}, in, 0, in, 0, api.Nil, api.Nil}, {g, C(3, 0), -1, in, 0, api.Place, api.Place}, {g, in, -1, C(0, 1), 0, api.Place, api.Place},
		{g, in, -1, in, 0, api.Height, api.Fine}, {g, in, api.MaxHeight + 1, in, 0, api.Height, api.Fine}, {g, in, 0, in, -1, api.Height, api.Fine}, {g, in, 0, in, api.MaxHeight + 1, api.Height, api.Fine},
		{g, in, math.MinInt64, in, math.MaxInt64, api.Height, api.Fine}, {g, C(math.MinInt64, 0), 0, C(math.MaxInt64, 0), 0, api.Place, api.Place},
	} {
		if ok, at, e := Clear(c.g, c.a, c.ha, c.b, c.hb); ok || at != (api.Cell{}) || e != c.e {
			t.Error(c, ok, at, e)
		}
		if l, e := Profile(c.g, c.a, c.b); e != c.pro || (e != api.Fine) != (l == nil) {
			t.Error(c, l, e)
		}
		if n, e := Lift(c.g, c.a, c.ha, c.b); c.hb == 0 && (n != 0 || e != c.e) {
			t.Error(c, n, e)
		}
	}
}

// P25.3: a cell sees itself, and all its neighbours.
func TestNear(t *testing.T) {
	g := land(3, 3, -50, 90, 3, 4, -80, 6, 700, 8, -9)
	for i := range int64(9) {
		b := C(i%3, i/3)
		if ok, _, e := Clear(g, C(1, 1), 0, b, 0); !ok || e != api.Fine {
			t.Error(b)
		}
		if n, e := Lift(g, C(1, 1), 0, b); n != 0 || e != api.Fine {
			t.Error(b, n)
		}
	}
}
