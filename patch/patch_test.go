package patch

import (
	"math"
	"slices"
	"testing"

	"hachure/api"
	"hachure/grid"
	"hachure/paint"
	"hachure/sample"
)

var R, C = sample.Rect, sample.Cell

func row(t *testing.T, l ...int64) *grid.Grid {
	t.Helper()
	g, e := paint.From(int64(len(l)), 1, l)
	if e != api.Fine {
		t.Fatal(e)
	}
	return g
}

func same(a, b api.Patch) bool {
	return a.R == b.R && slices.Equal(a.Old, b.Old) && slices.Equal(a.New, b.New)
}

// P11.1: what is right; the way back of any patch, in new memory.
func TestRightBack(t *testing.T) {
	one := []int64{1}
	for i, c := range []struct {
		p     api.Patch
		right bool
	}{
		{api.Patch{}, true}, {api.Patch{Old: []int64{}, New: []int64{}}, true}, {api.Patch{Old: one, New: one}, true}, {api.Patch{R: R(3, 4, 3, 4), Old: one, New: one}, true},
		{api.Patch{Old: one}, false}, {api.Patch{New: one}, false}, {api.Patch{R: R(3, 4, 3, 4)}, false}, {api.Patch{R: R(3, 4, 4, 4), Old: one, New: one}, false},
		{api.Patch{R: R(1, 0, 0, 0)}, false}, {api.Patch{R: R(1024, 0, 1024, 0), Old: one, New: one}, false},
		{api.Patch{Old: one, New: []int64{api.MaxValue + 1}}, false}, {api.Patch{Old: []int64{api.MinValue - 1}, New: one}, false},
		{api.Patch{Old: []int64{api.MinValue}, New: []int64{api.MaxValue}}, true},
		{api.Patch{R: R(math.MinInt64, 0, math.MaxInt64, 0), Old: one, New: one}, false},
	} {
		if Right(c.p) != c.right {
			t.Error(i)
		}
		b := Back(c.p)
		if b.R != c.p.R || !slices.Equal(b.Old, c.p.New) || !slices.Equal(b.New, c.p.Old) {
			t.Error(i, b)
		}
	}
	p := api.Patch{Old: []int64{1}, New: []int64{2}}
	b := Back(p)
	b.Old[0], b.New[0] = 8, 9
	if p.Old[0] != 1 || p.New[0] != 2 {
		t.Error("shared")
	}
}

// P11.2: the least patch, and each error in its order.
func TestBetween(t *testing.T) {
	if p, e := Between(row(t, 1, 2, 3, 4), row(t, 1, 5, 3, 6)); e != api.Fine || !same(p, api.Patch{R: R(1, 0, 3, 0), Old: []int64{2, 3, 4}, New: []int64{5, 3, 6}}) {
		t.Error(p, e)
	}
	if p, e := Between(row(t, 1, 2), row(t, 1, 2)); e != api.Fine || !same(p, api.Patch{}) {
		t.Error(p, e)
	}
	if p, e := Between(row(t, 1, 2), row(t, 7, 2)); e != api.Fine || !same(p, api.Patch{Old: []int64{1}, New: []int64{7}}) {
		t.Error(p, e)
	}
	a, b := row(t, 1), row(t, 1, 2)
	for _, c := range []struct {
		a, b *grid.Grid
		e    api.Code
	}{{nil, a, api.Nil}, {a, nil, api.Nil}, {a, b, api.Size}, {b, a, api.Size}, {&grid.Grid{}, a, api.Nil}} {
		if p, e := Between(c.a, c.b); e != c.e || !same(p, api.Patch{}) {
			t.Error(e, c.e)
		}
	}
}

func TestOf(t *testing.T) {
	g := row(t, 1, 2, 3)
	if p, e := Of(g, g.All(), []int64{1, 5, 3}); e != api.Fine || !same(p, api.Patch{R: R(1, 0, 1, 0), Old: []int64{2}, New: []int64{5}}) {
		t.Error(p, e)
	}
	if p, e := Of(g, R(1, 0, 2, 0), []int64{2, 3}); e != api.Fine || !same(p, api.Patch{}) {
		t.Error(p, e)
	}
	l := []int64{9}
	p, _ := Of(g, R(2, 0, 2, 0), l)
	l[0] = 1
	if p.New[0] != 9 {
		t.Error("shared")
	}
	for _, c := range []struct {
		g *grid.Grid
		r api.Rect
		l []int64
		e api.Code
	}{
		{nil, R(1, 0, 0, 0), nil, api.Nil}, {g, R(3, 0, 2, 0), nil, api.Place}, {g, R(1, 0, 0, 0), nil, api.Turned}, {g, R(0, 0, 0, 0), nil, api.Count},
		{g, R(0, 0, 0, 0), []int64{1 << 40, 0}, api.Count}, {g, R(0, 0, 0, 0), []int64{1 << 40}, api.Value},
	} {
		if p, e := Of(c.g, c.r, c.l); e != c.e || !same(p, api.Patch{}) {
			t.Error(e, c.e)
		}
	}
	if !grid.Same(g, row(t, 1, 2, 3)) {
		t.Error("changed")
	}
}

// P11.3: new values, and each error in its order; beside an error nothing changes.
func TestApply(t *testing.T) {
	g := row(t, 1, 2, 3)
	for _, c := range []struct {
		g *grid.Grid
		p api.Patch
		e api.Code
	}{
		{nil, api.Patch{New: []int64{1}}, api.Nil}, {g, api.Patch{R: R(9, 0, 9, 0), New: []int64{1}}, api.Form},
		{g, api.Patch{R: R(3, 0, 3, 0), Old: []int64{1}, New: []int64{1}}, api.Place}, {g, api.Patch{R: R(0, 1, 0, 1), Old: []int64{1}, New: []int64{1}}, api.Place},
		{g, api.Patch{R: R(0, 0, 1, 0), Old: []int64{1, 9}, New: []int64{5, 5}}, api.Lost}, {g, api.Patch{}, api.Fine},
	} {
		if e := Apply(c.g, c.p); e != c.e {
			t.Error(e, c.e)
		}
	}
	if !grid.Same(g, row(t, 1, 2, 3)) {
		t.Error("changed")
	}
	if e := Apply(g, api.Patch{R: R(1, 0, 2, 0), Old: []int64{2, 3}, New: []int64{7, 8}}); e != api.Fine || !grid.Same(g, row(t, 1, 7, 8)) {
		t.Error(e)
	}
}

// P11.4: a patch makes one grid the other one, its way back undoes it, and no side of its rectangle could be less.
func TestThereAndBack(t *testing.T) {
	d := sample.New(4)
	for range 200 {
		w, h := d.Between(1, 36), d.Between(1, 36)
		a, _ := paint.From(w, h, d.Values(int(w*h), 0, 1))
		b := a.Copy()
		for range d.Upto(4) {
			b.Set(d.Cell(w, h), d.Between(0, 5))
		}
		p, e := Between(a, b)
		if e != api.Fine || !Right(p) {
			t.Fatal(p, e)
		}
		was := a.Copy()
		if e := Apply(a, p); e != api.Fine || !grid.Same(a, b) {
			t.Fatal(e)
		}
		if e := Apply(a, Back(p)); e != api.Fine || !grid.Same(a, was) {
			t.Fatal(e)
		}
		checkLeast(t, p)
	}
}

func checkLeast(t *testing.T, p api.Patch) {
	t.Helper()
	if len(p.Old) == 0 {
		return
	}
	wide := int(p.R.X1 - p.R.X0 + 1)
	var first, last, top, bottom bool
	for i := range p.Old {
		if p.Old[i] != p.New[i] {
			first, last = first || i%wide == 0, last || i%wide == wide-1
			top, bottom = top || i < wide, bottom || i >= len(p.Old)-wide
		}
	}
	if !first || !last || !top || !bottom {
		t.Fatal("not the least", p)
	}
}
