package rect

import (
	"math"
	"math/rand"
	"slices"
	"testing"

	"hachure/api"
	"hachure/sample"
)

var R, C = sample.Rect, sample.Cell

var wild = []api.Rect{R(-1, 0, 0, 0), R(0, -1, 0, 0), R(1, 0, 0, 0), R(0, 1, 0, 0), R(0, 0, 1024, 0), R(0, 0, 0, 1024), R(math.MinInt64, 0, math.MaxInt64, 0), R(math.MaxInt64, math.MaxInt64, math.MinInt64, math.MinInt64)}

// P7.1: what is right, and each error of a grid in its order.
func TestRightWithin(t *testing.T) {
	for _, r := range []api.Rect{R(0, 0, 0, 0), R(0, 0, 1023, 1023), R(5, 6, 5, 6), R(1023, 0, 1023, 4)} {
		if !Right(r) {
			t.Error(r)
		}
	}
	for _, r := range wild {
		if Right(r) {
			t.Error(r)
		}
	}
	for _, c := range []struct {
		r    api.Rect
		w, h int64
		e    api.Code
	}{
		{R(9, 9, -1, 0), 0, 1, api.Size}, {api.Rect{}, 1, 0, api.Size}, {api.Rect{}, 1025, 1, api.Size}, {api.Rect{}, 1, 1025, api.Size}, {api.Rect{}, math.MinInt64, 1, api.Size},
		{api.Rect{}, 1, 1, api.Fine}, {R(0, 0, 2, 1), 3, 2, api.Fine}, {R(0, 0, 3, 1), 3, 2, api.Place}, {R(0, 0, 2, 2), 3, 2, api.Place},
		{R(3, 0, 2, 0), 3, 2, api.Place}, {R(0, 2, 0, 0), 3, 2, api.Place}, {R(2, 0, 1, 0), 3, 2, api.Turned}, {R(0, 1, 0, 0), 3, 2, api.Turned},
		{R(0, 1, 0, -1), 3, 2, api.Place}, {R(2, -1, 0, 0), 3, 2, api.Place}, {R(0, 0, 1023, 1023), 1024, 1024, api.Fine},
	} {
		if e := Within(c.r, c.w, c.h); e != c.e {
			t.Error(c, e)
		}
	}
}

// P7.2: areas, cells, and their order.
func TestCells(t *testing.T) {
	r := R(2, 3, 4, 4)
	if Area(r) != 6 || Area(R(0, 0, 1023, 1023)) != 1<<20 || Area(R(0, 0, 0, 0)) != 1 {
		t.Error("area")
	}
	for i, c := range []api.Cell{C(2, 3), C(3, 3), C(4, 3), C(2, 4), C(3, 4), C(4, 4)} {
		if got, ok := Nth(r, int64(i)); got != c || !ok || !Has(r, c) {
			t.Error(i, got, ok)
		}
		if n, ok := Rank(r, c); n != int64(i) || !ok {
			t.Error(c, n, ok)
		}
	}
	for _, i := range []int64{-1, 6, math.MinInt64, math.MaxInt64} {
		if c, ok := Nth(r, i); ok || c != (api.Cell{}) {
			t.Error(i, c)
		}
	}
	for _, c := range []api.Cell{C(1, 3), C(5, 3), C(2, 2), C(2, 5), C(math.MinInt64, math.MaxInt64)} {
		if n, ok := Rank(r, c); ok || n != 0 || Has(r, c) {
			t.Error(c, n)
		}
	}
	for _, r := range wild {
		_, nth := Nth(r, 0)
		_, rank := Rank(r, C(0, 0))
		if Area(r) != 0 || Has(r, C(0, 0)) || nth || rank {
			t.Error(r)
		}
	}
}

// P7.3: what both have, what has both, what is around.
func TestMeetHull(t *testing.T) {
	a, b := R(0, 0, 5, 5), R(5, 3, 9, 4)
	if m, ok := Meet(a, b); !ok || m != (R(5, 3, 5, 4)) {
		t.Error(m, ok)
	}
	if h := Hull(a, b); h != (R(0, 0, 9, 5)) {
		t.Error(h)
	}
	if m, ok := Meet(a, R(6, 0, 7, 0)); ok || m != (api.Rect{}) {
		t.Error(m, ok)
	}
	if m, ok := Meet(a, R(0, 6, 0, 7)); ok || m != (api.Rect{}) {
		t.Error(m, ok)
	}
	for _, w := range wild {
		_, ab := Meet(a, w)
		_, ba := Meet(w, a)
		if ab || ba || Hull(a, w) != a || Hull(w, b) != b || Hull(w, w) != (api.Rect{}) {
			t.Error(w)
		}
	}
}

func TestAround(t *testing.T) {
	for _, c := range []struct {
		c       api.Cell
		n, w, h int64
		r       api.Rect
		e       api.Code
	}{
		{C(3, 4), 2, 9, 9, R(1, 2, 5, 6), api.Fine}, {C(0, 4), 2, 9, 5, R(0, 2, 2, 4), api.Fine}, {C(3, 4), 0, 9, 9, R(3, 4, 3, 4), api.Fine},
		{C(3, 4), 1024, 9, 8, R(0, 0, 8, 7), api.Fine}, {C(9, 0), -1, 9, 0, api.Rect{}, api.Size}, {C(0, 0), 0, 1025, 1, api.Rect{}, api.Size},
		{C(9, 0), -1, 9, 9, api.Rect{}, api.Place}, {C(0, -1), 0, 9, 9, api.Rect{}, api.Place}, {C(math.MaxInt64, 0), 1, 9, 9, api.Rect{}, api.Place},
		{C(0, 0), -1, 9, 9, api.Rect{}, api.Reach}, {C(0, 0), 1025, 9, 9, api.Rect{}, api.Reach}, {C(0, 0), math.MaxInt64, 9, 9, api.Rect{}, api.Reach},
	} {
		if r, e := Around(c.c, c.n, c.w, c.h); r != c.r || e != c.e {
			t.Error(c, r, e)
		}
	}
}

// P7.4: pieces by tiles; each cell is in just one.
func TestPieces(t *testing.T) {
	if l := Pieces(R(14, 3, 17, 3)); !slices.Equal(l, []api.Rect{R(14, 3, 15, 3), R(16, 3, 17, 3)}) {
		t.Error(l)
	}
	if l := Pieces(R(0, 15, 16, 16)); !slices.Equal(l, []api.Rect{R(0, 15, 15, 15), R(16, 15, 16, 15), R(0, 16, 15, 16), R(16, 16, 16, 16)}) {
		t.Error(l)
	}
	if l := Pieces(R(0, 0, 1023, 1023)); len(l) != 4096 || l[4095] != (R(1008, 1008, 1023, 1023)) || l[1] != (R(16, 0, 31, 15)) {
		t.Error(len(l))
	}
	for _, r := range wild {
		if len(Pieces(r)) != 0 {
			t.Error(r)
		}
	}
	rnd := rand.New(rand.NewSource(8))
	for range 200 {
		x, y := rnd.Int63n(60), rnd.Int63n(60)
		r := R(x, y, x+rnd.Int63n(40), y+rnd.Int63n(40))
		seen := map[api.Cell]int{}
		for _, p := range Pieces(r) {
			if p.X0/16 != p.X1/16 || p.Y0/16 != p.Y1/16 {
				t.Fatal(p)
			}
			for i := range Area(p) {
				c, _ := Nth(p, i)
				seen[c]++
			}
		}
		if int64(len(seen)) != Area(r) {
			t.Fatal(r)
		}
		for c, n := range seen {
			if n != 1 || !Has(r, c) {
				t.Fatal(r, c, n)
			}
		}
	}
}
