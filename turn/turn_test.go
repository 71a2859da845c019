package turn

import (
	"math"
	"slices"
	"testing"

	"hachure/api"
	"hachure/grid"
	"hachure/paint"
	"hachure/sample"
)

var R, C = sample.Rect, sample.Cell

func land(w, h int64, l ...int64) *grid.Grid {
	g, _ := paint.From(w, h, l)
	return g
}

// is holds a grid against a size and values.
func is(t *testing.T, g *grid.Grid, e api.Code, w, h int64, l ...int64) {
	t.Helper()
	gw, gh := g.Size()
	if got, _ := g.Values(g.All()); gw != w || gh != h || !slices.Equal(got, l) || e != api.Fine {
		t.Errorf("%d, %d, %v, %d", gw, gh, got, e)
	}
}

// P42.1: quarters, the mirror, columns for rows.
func TestQuarter(t *testing.T) {
	g := land(3, 2, 1, 2, 3, 4, 5, 6)
	for _, n := range []int{1, -3, 5, math.MinInt + 1} {
		q, e := Quarter(g, n)
		is(t, q, e, 2, 3, 4, 1, 5, 2, 6, 3)
	}
	for _, n := range []int{2, -2, 6} {
		q, e := Quarter(g, n)
		is(t, q, e, 3, 2, 6, 5, 4, 3, 2, 1)
	}
	for _, n := range []int{3, -1, math.MaxInt} {
		q, e := Quarter(g, n)
		is(t, q, e, 2, 3, 3, 6, 2, 5, 1, 4)
	}
	for _, n := range []int{0, 4, -4, math.MinInt} {
		q, e := Quarter(g, n)
		is(t, q, e, 3, 2, 1, 2, 3, 4, 5, 6)
		q.Set(C(0, 0), 9)
	}
	row, e := Quarter(land(2, 1, 1, 2), 1)
	is(t, row, e, 1, 2, 1, 2)
	row, e = Quarter(land(2, 1, 1, 2), 3)
	is(t, row, e, 1, 2, 2, 1)
	m, e := Mirror(g)
	is(t, m, e, 3, 2, 3, 2, 1, 6, 5, 4)
	s, e := Swap(g)
	is(t, s, e, 2, 3, 1, 4, 2, 5, 3, 6)
	is(t, g, api.Fine, 3, 2, 1, 2, 3, 4, 5, 6)
}

// P42.2: what is cut out, what is made greater, and each error in its order.
func TestCropScale(t *testing.T) {
	g := land(3, 2, 1, 2, 3, 4, 5, 6)
	c, e := Crop(g, R(1, 0, 2, 1))
	is(t, c, e, 2, 2, 2, 3, 5, 6)
	s, e := Scale(land(2, 1, 1, 2), 2)
	is(t, s, e, 4, 2, 1, 1, 2, 2, 1, 1, 2, 2)
	same, e := Scale(g, 1)
	is(t, same, e, 3, 2, 1, 2, 3, 4, 5, 6)
	for _, x := range []struct {
		r api.Rect
		e api.Code
	}{{R(3, 0, 2, 0), api.Place}, {R(0, 0, 0, 2), api.Place}, {R(1, 0, 0, 0), api.Turned}} {
		if c, e := Crop(g, x.r); c != nil || e != x.e {
			t.Error(x, e)
		}
	}
	for _, x := range []struct {
		k int64
		e api.Code
	}{{0, api.Arg}, {-1, api.Arg}, {math.MinInt64, api.Arg}, {342, api.Size}, {math.MaxInt64, api.Size}, {math.MaxInt64 / 2, api.Size}} {
		if s, e := Scale(g, x.k); s != nil || e != x.e {
			t.Error(x, e)
		}
	}
	big, e := Scale(g, 341)
	if w, h := big.Size(); w != 1023 || h != 682 || e != api.Fine {
		t.Error(w, h, e)
	}
}

// P42.3: what is put together, and each error in its order.
func TestBesideBelow(t *testing.T) {
	a, b := land(2, 2, 1, 2, 3, 4), land(1, 2, 5, 6)
	g, e := Beside(a, b)
	is(t, g, e, 3, 2, 1, 2, 5, 3, 4, 6)
	g, e = Below(a, land(2, 1, 7, 8))
	is(t, g, e, 2, 3, 1, 2, 3, 4, 7, 8)
	g, e = Beside(a, a)
	is(t, g, e, 4, 2, 1, 2, 1, 2, 3, 4, 3, 4)
	wide, _ := grid.New(1023, 2, 0)
	high, _ := grid.New(2, 1023, 0)
	for _, x := range []struct {
		a, b          *grid.Grid
		beside, below api.Code
	}{
		{wide, a, api.Size, api.Count}, {wide, b, api.Fine, api.Count}, {high, a, api.Count, api.Size}, {a, high, api.Count, api.Size}, {wide, high, api.Count, api.Count}, {wide, wide, api.Size, api.Fine},
		{nil, a, api.Nil, api.Nil}, {a, nil, api.Nil, api.Nil}, {&grid.Grid{}, a, api.Nil, api.Nil},
	} {
		g, e := Beside(x.a, x.b)
		k, e2 := Below(x.a, x.b)
		if e != x.beside || e2 != x.below || (g == nil) != (e != api.Fine) || (k == nil) != (e2 != api.Fine) {
			t.Error(e, x.beside, e2, x.below)
		}
	}
}

// P42.4: what leaves all as it was; a quarter is a swap, and then a mirror; what is cropped comes back.
func TestFollows(t *testing.T) {
	d := sample.New(43)
	for range 100 {
		w, h := d.Between(1, 30), d.Between(1, 30)
		g := land(w, h, d.Values(int(w*h), -9, 9)...)
		turned := g
		for range 4 {
			turned, _ = Quarter(turned, 1)
		}
		m, _ := Mirror(g)
		m2, _ := Mirror(m)
		s, _ := Swap(g)
		s2, _ := Swap(s)
		q, _ := Quarter(g, 1)
		sm, _ := Mirror(s)
		if !grid.Same(turned, g) || !grid.Same(m2, g) || !grid.Same(s2, g) || !grid.Same(q, sm) {
			t.Fatal(w, h)
		}
		w2 := d.Between(1, 30)
		o := land(w2, h, d.Values(int(w2*h), -9, 9)...)
		both, _ := Beside(g, o)
		left, _ := Crop(both, g.All())
		right, _ := Crop(both, R(w, 0, w+w2-1, h-1))
		sw, _ := Swap(o)
		under, _ := Below(s, sw)
		upper, _ := Crop(under, s.All())
		lower, _ := Crop(under, R(0, w, h-1, w+w2-1))
		if !grid.Same(left, g) || !grid.Same(right, o) || !grid.Same(upper, s) || !grid.Same(lower, sw) {
			t.Fatal(w, h, w2)
		}
	}
}

func TestNil(t *testing.T) {
	for _, g := range []*grid.Grid{nil, {}} {
		for _, f := range []func() (*grid.Grid, api.Code){
			func() (*grid.Grid, api.Code) { return Quarter(g, 1) }, func() (*grid.Grid, api.Code) { return Mirror(g) }, func() (*grid.Grid, api.Code) { return Swap(g) },
			func() (*grid.Grid, api.Code) { return Crop(g, R(1, 0, 0, 0)) }, func() (*grid.Grid, api.Code) { return Scale(g, 0) },
		} {
			if o, e := f(); o != nil || e != api.Nil {
				t.Error(e)
			}
		}
	}
}
