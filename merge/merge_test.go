package merge

import (
	"math"
	"slices"
	"testing"

	"hachure/api"
	"hachure/grid"
	"hachure/paint"
	"hachure/patch"
	"hachure/sample"
)

var R, C = sample.Rect, sample.Cell

func row(l ...int64) *grid.Grid {
	g, _ := paint.From(int64(len(l)), 1, l)
	return g
}

// P47.1, P47.2: the merge, and what is preferred.
func TestThreePrefer(t *testing.T) {
	base, a, b := row(1, 1, 1, 1, 1), row(2, 1, 3, 6, 1), row(1, 5, 4, 6, 1)
	g, odds, e := Three(base, a, b)
	if !grid.Same(g, row(2, 5, 3, 6, 1)) || !slices.Equal(odds, []api.Cell{C(2, 0)}) || e != api.Fine {
		t.Error(odds, e)
	}
	g, odds, e = Three(base, b, a)
	if !grid.Same(g, row(2, 5, 4, 6, 1)) || !slices.Equal(odds, []api.Cell{C(2, 0)}) || e != api.Fine {
		t.Error(odds, e)
	}
	for which, v := range []int64{3, 4, 3, 4} {
		if g, e := Prefer(base, a, b, which); !grid.Same(g, row(2, 5, v, 6, 1)) || e != api.Fine {
			t.Error(which, e)
		}
	}
	for which, v := range []int64{4, 3, 3, 4} {
		if g, e := Prefer(base, b, a, which); !grid.Same(g, row(2, 5, v, 6, 1)) || e != api.Fine {
			t.Error(which, e)
		}
	}
	for _, which := range []int{-1, 4, math.MinInt, math.MaxInt} {
		if g, e := Prefer(base, a, b, which); g != nil || e != api.Arg {
			t.Error(which, e)
		}
	}
	if !grid.Same(base, row(1, 1, 1, 1, 1)) || !grid.Same(a, row(2, 1, 3, 6, 1)) {
		t.Error("changed")
	}
}

// P47.1, P47.2: each error in its order.
func TestErrors(t *testing.T) {
	g, long := row(1), row(1, 2)
	high, _ := grid.New(1, 2, 0)
	for _, c := range []struct {
		base, a, b *grid.Grid
		e          api.Code
	}{{nil, g, long, api.Nil}, {g, nil, long, api.Nil}, {g, long, nil, api.Nil}, {&grid.Grid{}, g, g, api.Nil}, {long, g, g, api.Size}, {g, long, g, api.Size}, {g, g, long, api.Size}, {long, high, long, api.Size}} {
		x, odds, e := Three(c.base, c.a, c.b)
		y, e2 := Prefer(c.base, c.a, c.b, 9)
		if x != nil || odds != nil || y != nil || e != c.e || e2 != c.e {
			t.Error(e, e2, c.e)
		}
	}
}

// P47.3: patches up to the first that isn't Fine.
func TestApply(t *testing.T) {
	base := row(1, 2, 3)
	one := api.Patch{R: R(1, 0, 1, 0), Old: []int64{2}, New: []int64{5}}
	two := api.Patch{R: R(1, 0, 2, 0), Old: []int64{5, 3}, New: []int64{6, 7}}
	far := api.Patch{R: R(3, 0, 3, 0), Old: []int64{5}, New: []int64{6}}
	for i, c := range []struct {
		base *grid.Grid
		l    []api.Patch
		g    *grid.Grid
		n    int
		e    api.Code
	}{
		{base, nil, base, 0, api.Fine}, {base, []api.Patch{one, two, {}}, row(1, 6, 7), 3, api.Fine}, {base, []api.Patch{two, one}, nil, 0, api.Lost}, {base, []api.Patch{one, one}, nil, 1, api.Lost},
		{base, []api.Patch{one, two, far, one}, nil, 2, api.Place}, {base, []api.Patch{{}, {Old: []int64{1}}}, nil, 1, api.Form}, {nil, []api.Patch{{Old: []int64{1}}}, nil, 0, api.Nil}, {&grid.Grid{}, nil, nil, 0, api.Nil},
	} {
		if g, n, e := Apply(c.base, c.l); !grid.Same(g, c.g) || n != c.n || e != c.e {
			t.Error(i, n, e)
		}
	}
	g, _, _ := Apply(base, nil)
	g.Set(C(0, 0), 9)
	if !grid.Same(base, row(1, 2, 3)) {
		t.Error("changed")
	}
}

// P47.4: what follows.
func TestFollows(t *testing.T) {
	d := sample.New(48)
	for range 200 {
		w, h := d.Between(1, 20), d.Between(1, 20)
		base, _ := paint.From(w, h, d.Values(int(w*h), 0, 2))
		a, b := base.Copy(), base.Copy()
		for range d.Upto(20) {
			a.Set(d.Cell(w, h), d.Upto(3))
			b.Set(d.Cell(w, h), d.Upto(3))
		}
		left, _, _ := Three(base, a, base)
		right, _, _ := Three(base, base, b)
		same, none, _ := Three(base, a, a)
		if !grid.Same(left, a) || !grid.Same(right, b) || !grid.Same(same, a) || len(none) != 0 {
			t.Fatal(w, h)
		}
		ab, odds, _ := Three(base, a, b)
		ba, odds2, _ := Three(base, b, a)
		if !slices.Equal(odds, odds2) || len(odds) == 0 && !grid.Same(ab, ba) {
			t.Fatal(odds, odds2)
		}
		p, _ := patch.Between(base, a)
		if g, n, e := Apply(base, []api.Patch{p, patch.Back(p), p}); !grid.Same(g, a) || n != 3 || e != api.Fine {
			t.Fatal(n, e)
		}
	}
}
