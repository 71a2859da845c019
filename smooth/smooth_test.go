package smooth

import (
	"math"
	"math/big"
	"slices"
	"testing"

	"hachure/api"
	"hachure/grid"
	"hachure/paint"
	"hachure/rect"
	"hachure/sample"
)

// windows are the sorted values of all cells' windows.
func windows(g *grid.Grid, n int64) [][]int64 {
	w, h := g.Size()
	var all [][]int64
	for i := range w * h {
		r, _ := rect.Around(sample.Cell(i%w, i/w), n, w, h)
		l, _ := g.Values(r)
		slices.Sort(l)
		all = append(all, l)
	}
	return all
}

func is(t *testing.T, what string, g *grid.Grid, e api.Code, want []int64) {
	t.Helper()
	if l, _ := g.Values(g.All()); !slices.Equal(l, want) || e != api.Fine {
		t.Fatalf("%s: %v, %d, not %v", what, l, e, want)
	}
}

// P44.1, P44.2, P44.3: against windows that are sorted.
func TestAgainstWindows(t *testing.T) {
	d := sample.New(45)
	for k := range 200 {
		w, h := d.Between(1, 24), d.Between(1, 24)
		span := []int64{4, 1000, api.MaxValue}[k%3]
		g, _ := paint.From(w, h, d.Values(int(w*h), -span, span))
		was := g.Copy()
		n := []int64{0, 1, d.Upto(5), d.Upto(30), api.MaxReach}[d.Upto(5)]
		var means, medians, spreads, least, open []int64
		for _, l := range windows(g, n) {
			sum := big.NewInt(0)
			for _, v := range l {
				sum.Add(sum, big.NewInt(v))
			}
			means = append(means, sum.Div(sum, big.NewInt(int64(len(l)))).Int64())
			medians = append(medians, l[(len(l)-1)/2])
			spreads = append(spreads, l[len(l)-1]-l[0])
			least = append(least, l[0])
		}
		low, _ := paint.From(w, h, least)
		for _, l := range windows(low, n) {
			open = append(open, l[len(l)-1])
		}
		m, e := Mean(g, n)
		is(t, "mean", m, e, means)
		m, e = Median(g, n)
		is(t, "median", m, e, medians)
		o, e := Open(g, n)
		is(t, "open", o, e, open)
		again, e := Open(o, n)
		is(t, "open again", again, e, open)
		if l, e := Spread(g, n); !slices.Equal(l, spreads) || e != api.Fine {
			t.Fatal(l, e)
		}
		values, _ := g.Values(g.All())
		for i, v := range values {
			if open[i] > v || n == 0 && (means[i] != v || medians[i] != v || open[i] != v || spreads[i] != 0) {
				t.Fatal(i)
			}
		}
		if !grid.Same(g, was) {
			t.Fatal("changed")
		}
	}
}

// P44.1, P44.2: the example.
func TestRow(t *testing.T) {
	g, _ := paint.From(3, 1, []int64{0, 9, 0})
	m, e := Mean(g, 1)
	is(t, "mean", m, e, []int64{4, 3, 4})
	m, e = Median(g, 1)
	is(t, "median", m, e, []int64{0, 0, 0})
	m, e = Open(g, 1)
	is(t, "open", m, e, []int64{0, 0, 0})
	if l, e := Spread(g, 1); !slices.Equal(l, []int64{9, 9, 9}) || e != api.Fine {
		t.Error(l, e)
	}
}

// P44.1: as many values as may be, all unlike.
func TestMany(t *testing.T) {
	l := make([]int64, 1<<20)
	for i := range l {
		l[i] = int64(i)
	}
	g, _ := paint.From(1024, 1024, l)
	m, e := Median(g, 1)
	if v, _ := m.At(sample.Cell(500, 500)); v != 500*1024+500 || e != api.Fine {
		t.Error(v, e)
	}
	m, e = Median(g, api.MaxReach)
	if v, _ := m.At(sample.Cell(0, 0)); v != 1<<19-1 || e != api.Fine {
		t.Error(v, e)
	}
	if v, _ := m.At(sample.Cell(1023, 1023)); v != 1<<19-1 {
		t.Error(v)
	}
}

// P44.1, P44.2: each error in its order.
func TestErrors(t *testing.T) {
	g, _ := grid.New(2, 1, 0)
	for _, c := range []struct {
		g *grid.Grid
		n int64
		e api.Code
	}{{nil, -1, api.Nil}, {&grid.Grid{}, 0, api.Nil}, {g, -1, api.Reach}, {g, api.MaxReach + 1, api.Reach}, {g, math.MaxInt64, api.Reach}, {g, math.MinInt64, api.Reach}} {
		a, e := Mean(c.g, c.n)
		b, e2 := Median(c.g, c.n)
		l, e3 := Spread(c.g, c.n)
		o, e4 := Open(c.g, c.n)
		if a != nil || b != nil || l != nil || o != nil || e != c.e || e2 != c.e || e3 != c.e || e4 != c.e {
			t.Error(c.n, e, e2, e3, e4)
		}
	}
}
