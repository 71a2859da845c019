package audit

import (
	"math"
	"slices"
	"testing"

	"hachure/api"
	"hachure/fen"
	"hachure/grid"
	"hachure/paint"
	"hachure/pyr"
	"hachure/sample"
)

var R, C = sample.Rect, sample.Cell

// P38.1, P38.2: what isn't told is found, and healed.
func TestCheckHeal(t *testing.T) {
	d := sample.New(38)
	for range 100 {
		w, h := d.Between(1, 20), d.Between(1, 20)
		g, _ := paint.From(w, h, d.Values(int(w*h), -9, 9))
		p, _ := pyr.Build(g)
		f, _ := fen.Of(g)
		if l, e := Check(g, p, f); len(l) != 0 || e != api.Fine {
			t.Fatal(l, e)
		}
		was := g.Copy()
		for range d.Upto(5) {
			g.Set(d.Cell(w, h), d.Between(-9, 9))
		}
		off := map[api.Cell]bool{}
		for range d.Upto(4) {
			c := d.Cell(w, h)
			off[c] = f.Add(c, d.Between(20, 1<<39)) == api.Fine || off[c]
		}
		var want []api.Finding
		for kind := 1; kind <= 2; kind++ {
			for i := range w * h {
				c := C(i%w, i/w)
				v, _ := g.At(c)
				u, _ := was.At(c)
				if v != u || kind == 2 && off[c] {
					want = append(want, api.Finding{Kind: kind, At: c})
				}
			}
		}
		if l, e := Check(g, p, f); !slices.Equal(l, want) || e != api.Fine {
			t.Fatal(l, want, e)
		}
		now := g.Copy()
		if n, e := Heal(g, p, f); n != len(want) || e != api.Fine || !grid.Same(g, now) {
			t.Fatal(n, want, e)
		}
		built, _ := pyr.Build(g)
		if l, e := Check(g, p, f); len(l) != 0 || e != api.Fine || !pyr.Same(p, built) {
			t.Fatal(l, e)
		}
		if n, e := Heal(g, p, f); n != 0 || e != api.Fine {
			t.Fatal(n, e)
		}
	}
}

// P38.1: the example: a cell that is set, and not told, is found by both.
func TestExample(t *testing.T) {
	g, _ := grid.New(3, 2, 0)
	p, _ := pyr.Build(g)
	f, _ := fen.Of(g)
	g.Set(C(2, 1), 5)
	if l, e := Check(g, p, f); !slices.Equal(l, []api.Finding{{Kind: 1, At: C(2, 1)}, {Kind: 2, At: C(2, 1)}}) || e != api.Fine {
		t.Error(l, e)
	}
	f.Add(C(0, 0), 1<<40)
	f.Add(C(1, 0), -1<<40)
	g.Fill(g.All(), api.MaxValue)
	if n, e := Heal(g, p, f); n != 12 || e != api.Fine {
		t.Error(n, e)
	}
	if n, _ := f.Sum(g.All()); n != 6*api.MaxValue {
		t.Error(n)
	}
}

// P38.1, P38.2: each error in its order.
func TestErrors(t *testing.T) {
	g, _ := grid.New(3, 2, 0)
	p, _ := pyr.Build(g)
	f, _ := fen.Of(g)
	turned, _ := grid.New(2, 3, 0)
	q, _ := pyr.Build(turned)
	x, _ := fen.New(3, 3)
	for _, c := range []struct {
		g *grid.Grid
		p *pyr.Pyr
		f *fen.Fen
		e api.Code
	}{
		{nil, p, f, api.Nil}, {g, nil, f, api.Nil}, {g, p, nil, api.Nil}, {g, q, nil, api.Nil}, {g, nil, x, api.Nil}, {nil, nil, nil, api.Nil}, {&grid.Grid{}, p, f, api.Nil}, {g, &pyr.Pyr{}, f, api.Nil}, {g, p, &fen.Fen{}, api.Nil},
		{g, q, f, api.Size}, {g, p, x, api.Size}, {turned, p, f, api.Size},
	} {
		l, e := Check(c.g, c.p, c.f)
		n, e2 := Heal(c.g, c.p, c.f)
		if l != nil || n != 0 || e != c.e || e2 != c.e {
			t.Error(l, n, e, e2, c.e)
		}
	}
}

// P38.3: the least rectangle of a kind's cells that can be.
func TestWhere(t *testing.T) {
	l := []api.Finding{{Kind: 1, At: C(3, 4)}, {Kind: 2, At: C(9, 9)}, {Kind: 1, At: C(1, 7)}, {Kind: 1, At: C(1024, 0)}, {Kind: 1, At: C(-1, 0)}, {Kind: 3, At: C(0, -1)}, {Kind: -5, At: C(0, 0)}, {Kind: 3, At: C(math.MinInt64, math.MaxInt64)}}
	for _, c := range []struct {
		kind int
		r    api.Rect
		ok   bool
	}{{1, R(1, 4, 3, 7), true}, {2, R(9, 9, 9, 9), true}, {-5, R(0, 0, 0, 0), true}, {3, api.Rect{}, false}, {0, api.Rect{}, false}, {math.MaxInt, api.Rect{}, false}} {
		if r, ok := Where(l, c.kind); r != c.r || ok != c.ok {
			t.Error(c, r, ok)
		}
	}
	if r, ok := Where(nil, 1); r != (api.Rect{}) || ok {
		t.Error(r, ok)
	}
}
