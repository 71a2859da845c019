package paint

import (
	"math"
	"slices"
	"testing"

	"hachure/api"
	"hachure/grid"
	"hachure/rect"
	"hachure/sample"
)

var R, C = sample.Rect, sample.Cell

func of(t *testing.T, w, h int64, l ...int64) *grid.Grid {
	t.Helper()
	g, e := From(w, h, l)
	if e != api.Fine {
		t.Fatal(e)
	}
	return g
}

func has(t *testing.T, g *grid.Grid, l ...int64) {
	t.Helper()
	if got, _ := g.Values(g.All()); !slices.Equal(got, l) {
		t.Errorf("%v, not %v", got, l)
	}
}

// P10.1: values into a rectangle, a grid of values, and each error in its order.
func TestPasteFrom(t *testing.T) {
	g := of(t, 3, 2, 1, 2, 3, 4, 5, 6)
	if e := Paste(g, R(1, 0, 2, 1), []int64{7, 8, 9, api.MinValue}); e != api.Fine {
		t.Error(e)
	}
	has(t, g, 1, 7, 8, 4, 9, api.MinValue)
	if ends := of(t, 2, 1, api.MinValue, api.MaxValue); Clamp(ends, ends.All(), api.MinValue, api.MaxValue) != api.Fine {
		t.Error("ends")
	}
	for _, c := range []struct {
		r api.Rect
		l []int64
		e api.Code
	}{
		{R(0, 0, 3, 0), []int64{1 << 40}, api.Place}, {R(1, 0, 0, 2), nil, api.Place}, {R(1, 0, 0, 0), nil, api.Turned}, {R(0, 0, 1, 0), []int64{1 << 40}, api.Count},
		{R(0, 0, 1, 0), nil, api.Count}, {R(0, 0, 1, 0), []int64{0, 0, 0}, api.Count}, {R(0, 0, 1, 0), []int64{0, api.MaxValue + 1}, api.Value}, {R(0, 0, 1, 0), []int64{0, math.MinInt64}, api.Value},
	} {
		if e := Paste(g, c.r, c.l); e != c.e {
			t.Error(c, e)
		}
	}
	has(t, g, 1, 7, 8, 4, 9, api.MinValue)
	for _, c := range []struct {
		w, h int64
		l    []int64
		e    api.Code
	}{{0, 1, nil, api.Size}, {1, 1025, []int64{1 << 40}, api.Size}, {2, 1, []int64{1 << 40}, api.Count}, {1, 1, nil, api.Count}, {1, 1, []int64{1 << 40}, api.Value}} {
		if g, e := From(c.w, c.h, c.l); e != c.e || g != nil {
			t.Error(c, e)
		}
	}
	l := []int64{1, 2}
	g = of(t, 2, 1, l...)
	l[0] = 9
	has(t, g, 1, 2)
}

// P10.2: sums and bounds, and each error in its order.
func TestAdd(t *testing.T) {
	g := of(t, 3, 1, 1, api.MaxValue-2, -3)
	if e := Add(g, R(0, 0, 1, 0), 2); e != api.Fine {
		t.Error(e)
	}
	has(t, g, 3, api.MaxValue, -3)
	for _, d := range []int64{1, math.MaxInt64, math.MinInt64, api.MinValue * 2} {
		if e := Add(g, g.All(), d); e != api.Value {
			t.Error(d, e)
		}
	}
	has(t, g, 3, api.MaxValue, -3)
	if Add(g, R(0, 0, 3, 0), math.MaxInt64) != api.Place || Add(g, R(1, 0, 0, 0), math.MaxInt64) != api.Turned {
		t.Error("place")
	}
	if e := Add(g, R(1, 0, 1, 0), api.MinValue-api.MaxValue); e != api.Fine {
		t.Error(e)
	}
	has(t, g, 3, api.MinValue, -3)
}

func TestClamp(t *testing.T) {
	g := of(t, 4, 1, -9, 0, 5, 9)
	if e := Clamp(g, R(0, 0, 2, 0), -1, 4); e != api.Fine {
		t.Error(e)
	}
	has(t, g, -1, 0, 4, 9)
	for _, c := range []struct {
		r      api.Rect
		lo, hi int64
		e      api.Code
	}{
		{R(0, 0, 4, 0), 1, 0, api.Place}, {R(1, 0, 0, 0), 1, 0, api.Turned}, {R(0, 0, 1, 0), math.MaxInt64, math.MinInt64, api.Arg},
		{R(0, 0, 1, 0), api.MinValue - 1, 0, api.Value}, {R(0, 0, 1, 0), 0, api.MaxValue + 1, api.Value}, {R(0, 0, 0, 0), 3, 3, api.Fine},
	} {
		if e := Clamp(g, c.r, c.lo, c.hi); e != c.e {
			t.Error(c, e)
		}
	}
	has(t, g, 3, 0, 4, 9)
}

// P10.3: a rectangle once more elsewhere, also over itself.
func TestStamp(t *testing.T) {
	g := of(t, 3, 1, 1, 2, 3)
	if e := Stamp(g, R(0, 0, 1, 0), C(1, 0)); e != api.Fine {
		t.Error(e)
	}
	has(t, g, 1, 1, 2)
	g = of(t, 3, 2, 1, 2, 3, 4, 5, 6)
	if e := Stamp(g, R(1, 1, 2, 1), C(0, 0)); e != api.Fine {
		t.Error(e)
	}
	has(t, g, 5, 6, 3, 4, 5, 6)
	for _, c := range []struct {
		r  api.Rect
		to api.Cell
		e  api.Code
	}{
		{R(0, 0, 0, 2), C(-1, 0), api.Place}, {R(1, 0, 0, 0), C(-1, 0), api.Turned}, {R(0, 0, 1, 0), C(2, 0), api.Place}, {R(0, 0, 0, 1), C(0, 1), api.Place},
		{R(0, 0, 0, 0), C(-1, 0), api.Place}, {R(0, 0, 0, 0), C(math.MaxInt64, math.MaxInt64), api.Place}, {R(0, 0, 1, 1), C(0, math.MinInt64), api.Place},
	} {
		if e := Stamp(g, c.r, c.to); e != c.e {
			t.Error(c, e)
		}
	}
	has(t, g, 5, 6, 3, 4, 5, 6)
}

func TestNil(t *testing.T) {
	for _, g := range []*grid.Grid{nil, {}} {
		if Paste(g, R(1, 0, 0, 0), nil) != api.Nil || Add(g, R(1, 0, 0, 0), 0) != api.Nil || Clamp(g, R(1, 0, 0, 0), 1, 0) != api.Nil || Stamp(g, R(1, 0, 0, 0), C(0, 0)) != api.Nil {
			t.Error("nil")
		}
	}
}

// P10.1 to P10.3 over several tiles, against a plain list.
func TestAgainstList(t *testing.T) {
	d := sample.New(3)
	for range 60 {
		w, h := d.Between(1, 40), d.Between(1, 40)
		l := d.Values(int(w*h), -9, 9)
		g := of(t, w, h, l...)
		for range 5 {
			r := d.Rect(w, h)
			add, lo := d.Between(-3, 3), d.Between(-5, 5)
			hi := lo + d.Upto(6)
			if Add(g, r, add) != api.Fine || Clamp(g, r, lo, hi) != api.Fine {
				t.Fatal("refused")
			}
			for i := range rect.Area(r) {
				c, _ := rect.Nth(r, i)
				l[c.Y*w+c.X] = min(max(l[c.Y*w+c.X]+add, lo), hi)
			}
			has(t, g, l...)
		}
	}
}
