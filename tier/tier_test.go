package tier

import (
	"math"
	"slices"
	"testing"

	"hachure/api"
	"hachure/rect"
	"hachure/sample"
)

var R, C = sample.Rect, sample.Cell

var wildSizes = [][2]int64{{0, 1}, {1, 0}, {1025, 1}, {1, 1025}, {-3, 4}, {math.MaxInt64, math.MinInt64}}

// P15.1: how many levels, and their sizes.
func TestLevelsSize(t *testing.T) {
	for _, c := range []struct {
		w, h  int64
		sizes [][2]int64
	}{
		{1, 1, [][2]int64{{1, 1}}}, {5, 3, [][2]int64{{5, 3}, {3, 2}, {2, 1}, {1, 1}}}, {1, 4, [][2]int64{{1, 4}, {1, 2}, {1, 1}}},
	} {
		if n, e := Levels(c.w, c.h); n != len(c.sizes) || e != api.Fine {
			t.Error(c, n, e)
		}
		for k, s := range c.sizes {
			if w, h, e := Size(c.w, c.h, k); w != s[0] || h != s[1] || e != api.Fine {
				t.Error(c, k, w, h, e)
			}
		}
		for _, k := range []int{-1, len(c.sizes), math.MinInt, math.MaxInt} {
			if w, h, e := Size(c.w, c.h, k); w != 0 || h != 0 || e != api.Arg {
				t.Error(c, k, w, h, e)
			}
		}
	}
	if n, _ := Levels(1024, 1024); n != 11 {
		t.Error(n)
	}
	if n, _ := Levels(1024, 1); n != 11 {
		t.Error(n)
	}
	for _, s := range wildSizes {
		n, e := Levels(s[0], s[1])
		w, h, e2 := Size(s[0], s[1], -1)
		if w != 0 || h != 0 || n != 0 || e != api.Size || e2 != api.Size {
			t.Error(s, n, e, e2)
		}
	}
}

// P15.2: spans, kids, what is above, and each error in its order.
func TestCells(t *testing.T) {
	if r, e := Span(5, 3, 1, C(2, 1)); r != R(4, 2, 4, 2) || e != api.Fine {
		t.Error(r, e)
	}
	if r, e := Span(5, 3, 2, C(0, 0)); r != R(0, 0, 3, 2) || e != api.Fine {
		t.Error(r, e)
	}
	if r, e := Span(5, 3, 0, C(4, 2)); r != R(4, 2, 4, 2) || e != api.Fine {
		t.Error(r, e)
	}
	if l, e := Kids(5, 3, 1, C(2, 0)); !slices.Equal(l, []api.Cell{C(4, 0), C(4, 1)}) || e != api.Fine {
		t.Error(l, e)
	}
	if l, e := Kids(5, 3, 2, C(0, 0)); !slices.Equal(l, []api.Cell{C(0, 0), C(1, 0), C(0, 1), C(1, 1)}) || e != api.Fine {
		t.Error(l, e)
	}
	if c, e := Above(5, 3, 2, C(4, 2)); c != C(1, 0) || e != api.Fine {
		t.Error(c, e)
	}
}

func TestErrors(t *testing.T) {
	for _, c := range []struct {
		w, h              int64
		k                 int
		c                 api.Cell
		span, kids, above api.Code
	}{
		{0, 1, -1, C(-1, 0), api.Size, api.Size, api.Size}, {1, 1025, 0, C(0, 0), api.Size, api.Size, api.Size},
		{5, 3, -1, C(-1, 0), api.Arg, api.Arg, api.Arg}, {5, 3, 4, C(-1, 0), api.Arg, api.Arg, api.Arg}, {5, 3, 0, C(-1, 0), api.Place, api.Arg, api.Place},
		{5, 3, math.MaxInt, C(0, 0), api.Arg, api.Arg, api.Arg}, {5, 3, 1, C(3, 0), api.Place, api.Place, api.Fine}, {5, 3, 1, C(0, 2), api.Place, api.Place, api.Fine},
		{5, 3, 1, C(5, 0), api.Place, api.Place, api.Place}, {5, 3, 3, C(0, 3), api.Place, api.Place, api.Place}, {5, 3, 1, C(math.MaxInt64, math.MinInt64), api.Place, api.Place, api.Place},
	} {
		r, e := Span(c.w, c.h, c.k, c.c)
		l, e2 := Kids(c.w, c.h, c.k, c.c)
		a, e3 := Above(c.w, c.h, c.k, c.c)
		if e != c.span || e2 != c.kids || e3 != c.above || r != (api.Rect{}) || l != nil || e3 != api.Fine && a != (api.Cell{}) {
			t.Error(c, r, e, l, e2, a, e3)
		}
	}
}

// P15.3: the last level's cell stands for all; each cell is in the span of one, the one above it; a span is that of the kids.
func TestSpans(t *testing.T) {
	d := sample.New(8)
	for range 60 {
		w, h := d.Between(1, 40), d.Between(1, 40)
		n, _ := Levels(w, h)
		if r, e := Span(w, h, n-1, C(0, 0)); r != R(0, 0, w-1, h-1) || e != api.Fine {
			t.Fatal(w, h, r, e)
		}
		for k := range n {
			across, along, _ := Size(w, h, k)
			seen := map[api.Cell]int{}
			for i := range across * along {
				c := C(i%across, i/across)
				r, _ := Span(w, h, k, c)
				for j := range rect.Area(r) {
					cell, _ := rect.Nth(r, j)
					seen[cell]++
					if up, e := Above(w, h, k, cell); up != c || e != api.Fine {
						t.Fatal(w, h, k, cell, up, e)
					}
				}
				checkKids(t, w, h, k, c, r)
			}
			if int64(len(seen)) != w*h {
				t.Fatal(w, h, k)
			}
			for c, n := range seen {
				if n != 1 {
					t.Fatal(w, h, k, c)
				}
			}
		}
	}
}

func checkKids(t *testing.T, w, h int64, k int, c api.Cell, r api.Rect) {
	t.Helper()
	if k == 0 {
		return
	}
	kids, e := Kids(w, h, k, c)
	hull := api.Rect{X0: -1}
	area := int64(0)
	for _, kid := range kids {
		s, _ := Span(w, h, k-1, kid)
		hull = rect.Hull(hull, s)
		area += rect.Area(s)
	}
	if e != api.Fine || hull != r || area != rect.Area(r) {
		t.Fatal(w, h, k, c, kids, e)
	}
}
