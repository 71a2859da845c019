package skip

import (
	"math"
	"testing"

	"hachure/api"
	"hachure/paint"
	"hachure/pyr"
	"hachure/ray"
	"hachure/sample"
	"hachure/sight"
)

var C = sample.Cell

// P26.1: it tells what sight tells, on rough and on smooth lands.
func TestClear(t *testing.T) {
	d := sample.New(24)
	for k := range 300 {
		w, h := d.Between(1, 60), d.Between(1, 60)
		l := d.Values(int(w*h), 0, []int64{1, 3, 40}[k%3])
		if k%2 == 0 {
			for i := range l {
				x, y := int64(i)%w-w/2, int64(i)/w-h/3
				l[i] += x*x/4 + y*y/4
			}
		}
		g, _ := paint.From(w, h, l)
		p, _ := pyr.Build(g)
		for range 20 {
			a, b, ha, hb := d.Cell(w, h), d.Cell(w, h), d.Upto(30), d.Upto(30)
			want, at, _ := sight.Clear(g, a, ha, b, hb)
			if ok, c, e := Clear(p, a, ha, b, hb); ok != want || c != at || e != api.Fine {
				t.Fatal(a, ha, b, hb, ok, c, e, want, at)
			}
		}
	}
}

// P26.2: the greatest value, and its first cell.
func TestPeak(t *testing.T) {
	d := sample.New(25)
	for range 300 {
		w, h := d.Between(1, 60), d.Between(1, 60)
		g, _ := paint.From(w, h, d.Values(int(w*h), -9, d.Between(-8, 300)))
		p, _ := pyr.Build(g)
		a, b := d.Cell(w, h), d.Cell(w, h)
		row, _ := ray.Row(a, b)
		best := a
		for _, c := range row {
			v, _ := g.At(c)
			if u, _ := g.At(best); v > u {
				best = c
			}
		}
		most, _ := g.At(best)
		if v, c, e := Peak(p, a, b); v != most || c != best || e != api.Fine {
			t.Fatal(a, b, v, c, e, most, best)
		}
	}
	g, _ := paint.From(3, 1, []int64{0, 5, 5})
	p, _ := pyr.Build(g)
	if v, c, e := Peak(p, C(0, 0), C(2, 0)); v != 5 || c != C(1, 0) || e != api.Fine {
		t.Error(v, c, e)
	}
	if v, c, e := Peak(p, C(2, 0), C(0, 0)); v != 5 || c != C(2, 0) || e != api.Fine {
		t.Error(v, c, e)
	}
}

// P26.1, P26.2: each error in its order.
func TestErrors(t *testing.T) {
	g, _ := paint.From(3, 1, []int64{0, 5, 5})
	p, _ := pyr.Build(g)
	in := C(0, 0)
	for _, c := range []struct {
		p       *pyr.Pyr
		a       api.Cell
		ha      int64
		b       api.Cell
		hb      int64
		e, peak api.Code
	}{
		{nil, C(9, 9), -1, in, -1, api.Nil, api.Nil}, {&pyr.Pyr{}, in, 0, in, 0, api.Nil, api.Nil}, {p, C(3, 0), -1, in, 0, api.Place, api.Place}, {p, in, -1, C(0, 1), 0, api.Place, api.Place},
		{p, in, -1, in, 0, api.Height, api.Fine}, {p, in, 0, in, api.MaxHeight + 1, api.Height, api.Fine}, {p, in, math.MaxInt64, in, math.MinInt64, api.Height, api.Fine},
		{p, C(math.MinInt64, 0), 0, C(math.MaxInt64, 0), 0, api.Place, api.Place},
	} {
		if ok, at, e := Clear(c.p, c.a, c.ha, c.b, c.hb); ok || at != (api.Cell{}) || e != c.e {
			t.Error(c, ok, at, e)
		}
		if v, at, e := Peak(c.p, c.a, c.b); v != 0 || at != (api.Cell{}) || e != c.peak {
			t.Error(c, v, at, e)
		}
	}
	if ok, _, e := Clear(p, in, api.MaxHeight, C(2, 0), api.MaxHeight); !ok || e != api.Fine {
		t.Error(ok, e)
	}
}
