package area

import (
	"math"
	"math/big"
	"testing"

	"hachure/api"
	"hachure/grid"
	"hachure/paint"
	"hachure/rect"
	"hachure/sample"
)

var R, C = sample.Rect, sample.Cell

func plain(l []int64, w int64, r api.Rect) (int64, int64) {
	sum := int64(0)
	for i := range rect.Area(r) {
		c, _ := rect.Nth(r, i)
		sum += l[c.Y*w+c.X]
	}
	mean := new(big.Int).Div(big.NewInt(sum), big.NewInt(rect.Area(r)))
	return sum, mean.Int64()
}

// P20.1, P20.2: the table's sums, and those and the means of rectangles, of the grid as it was.
func TestAgainstCells(t *testing.T) {
	d := sample.New(17)
	for range 100 {
		w, h := d.Between(1, 40), d.Between(1, 40)
		span := int64(1) << d.Upto(32)
		l := d.Values(int(w*h), -span, span-1)
		g, _ := paint.From(w, h, l)
		table, e := Build(g)
		g.Fill(g.All(), 3)
		if tw, th := table.Size(); tw != w || th != h || e != api.Fine {
			t.Fatal(tw, th, e)
		}
		for range 10 {
			r := d.Rect(w, h)
			sum, mean := plain(l, w, r)
			if n, e := table.Sum(r); n != sum || e != api.Fine {
				t.Fatal(r, n, e)
			}
			if n, e := table.Mean(r); n != mean || e != api.Fine {
				t.Fatal(r, n, e)
			}
			c := d.Cell(w, h)
			sum, _ = plain(l, w, R(0, 0, c.X, c.Y))
			if n, e := table.At(c); n != sum || e != api.Fine {
				t.Fatal(c, n, e)
			}
		}
	}
}

// P20.2: means below 0 are rounded down.
func TestMean(t *testing.T) {
	g, _ := paint.From(3, 1, []int64{3, 4, -8})
	table, _ := Build(g)
	for _, c := range []struct {
		r api.Rect
		n int64
	}{{R(1, 0, 2, 0), -2}, {R(0, 0, 2, 0), -1}, {R(0, 0, 1, 0), 3}, {R(0, 0, 0, 0), 3}} {
		if n, e := table.Mean(c.r); n != c.n || e != api.Fine {
			t.Error(c, n, e)
		}
	}
	for i, n := range []int64{3, 7, -1} {
		if got, e := table.At(C(int64(i), 0)); got != n || e != api.Fine {
			t.Error(i, got, e)
		}
	}
}

// P20.1, P20.2: each error in its order.
func TestErrors(t *testing.T) {
	g, _ := grid.New(3, 2, 1)
	table, _ := Build(g)
	for _, c := range []api.Cell{C(3, 0), C(0, 2), C(-1, 0), C(math.MinInt64, math.MaxInt64)} {
		if n, e := table.At(c); n != 0 || e != api.Place {
			t.Error(c, n, e)
		}
	}
	for _, c := range []struct {
		r api.Rect
		e api.Code
	}{{R(0, 0, 3, 0), api.Place}, {R(3, 0, 2, 0), api.Place}, {R(1, 0, 0, 0), api.Turned}, {R(0, 1, 0, 0), api.Turned}} {
		n, e := table.Sum(c.r)
		m, e2 := table.Mean(c.r)
		if n != 0 || m != 0 || e != c.e || e2 != c.e {
			t.Error(c, n, m, e, e2)
		}
	}
	for _, table := range []*Table{nil, {}} {
		w, h := table.Size()
		a, e := table.At(C(-1, 0))
		s, e2 := table.Sum(R(1, 0, 0, 0))
		m, e3 := table.Mean(R(1, 0, 0, 0))
		if w != 0 || h != 0 || a != 0 || s != 0 || m != 0 || e != api.Nil || e2 != api.Nil || e3 != api.Nil {
			t.Error("nil")
		}
	}
	if table, e := Build(nil); table != nil || e != api.Nil {
		t.Error(e)
	}
}
