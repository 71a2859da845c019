package zones

import (
	"math"
	"math/big"
	"slices"
	"testing"

	"hachure/api"
	"hachure/grid"
	"hachure/paint"
	"hachure/sample"
)

var C = sample.Cell

// P49.1, P49.2, P49.3: against each label's cells.
func TestAgainstCells(t *testing.T) {
	d := sample.New(50)
	for range 300 {
		w, h := d.Between(1, 12), d.Between(1, 12)
		l, labels := d.Values(int(w*h), -9, 9), d.Values(int(w*h), -2, d.Between(-2, 4))
		g, _ := paint.From(w, h, l)
		was := slices.Clone(labels)
		zones, e := Of(g, labels)
		var want []Zone
		for label := int64(-2); label <= 4; label++ {
			z := Zone{Label: label, Min: 99, Max: -99}
			for i, v := range l {
				if labels[i] == label {
					if z.Area == 0 {
						z.First = C(int64(i)%w, int64(i)/w)
					}
					z.Area++
					z.Sum += v
					z.Min, z.Max = min(z.Min, v), max(z.Max, v)
				}
			}
			if z.Area > 0 && label != 0 {
				want = append(want, z)
			}
		}
		if !slices.Equal(zones, want) || e != api.Fine {
			t.Fatal(zones, want, e)
		}
		checkBorders(t, g, labels)
		label := d.Between(-2, 4)
		for i := range l {
			if labels[i] != label {
				l[i] = 77
			}
		}
		mask, e := Mask(g, labels, label, 77)
		if got, _ := mask.Values(mask.All()); !slices.Equal(got, l) || e != api.Fine || !slices.Equal(labels, was) {
			t.Fatal(label, got, e)
		}
	}
}

func checkBorders(t *testing.T, g *grid.Grid, labels []int64) {
	t.Helper()
	w, h := g.Size()
	var want []Pair
	for a := int64(-2); a <= 4; a++ {
		for b := a + 1; b <= 4; b++ {
			p := Pair{A: a, B: b}
			for i := range w * h {
				for j := range w * h {
					dx, dy := i%w-j%w, i/w-j/w
					if dx*dx+dy*dy == 1 && labels[i] == a && labels[j] == b {
						p.Sides++
					}
				}
			}
			if p.Sides > 0 && a != 0 && b != 0 {
				want = append(want, p)
			}
		}
	}
	if got, e := Borders(g, labels); !slices.Equal(got, want) || e != api.Fine {
		t.Fatal(got, want, e)
	}
}

// P49.1, P49.2: the example, labels at their ends.
func TestRow(t *testing.T) {
	g, _ := paint.From(3, 1, []int64{4, 5, 9})
	labels := []int64{2, 1, 2}
	if l, e := Of(g, labels); !slices.Equal(l, []Zone{{1, 1, 5, 5, 5, C(1, 0)}, {2, 2, 13, 4, 9, C(0, 0)}}) || e != api.Fine {
		t.Error(l, e)
	}
	if l, e := Borders(g, labels); !slices.Equal(l, []Pair{{1, 2, 2}}) || e != api.Fine {
		t.Error(l, e)
	}
	if l, e := Borders(g, []int64{math.MaxInt64, math.MinInt64, 0}); !slices.Equal(l, []Pair{{math.MinInt64, math.MaxInt64, 1}}) || e != api.Fine {
		t.Error(l, e)
	}
	none := make([]int64, 3)
	if l, e := Of(g, none); len(l) != 0 || e != api.Fine {
		t.Error(l, e)
	}
	for _, v := range []int64{api.MinValue, api.MaxValue} {
		m, e := Mask(g, labels, 2, v)
		if got, _ := m.At(C(1, 0)); got != v || e != api.Fine {
			t.Error(v, got, e)
		}
	}
	if m, e := Mask(g, none, 0, 7); !grid.Same(m, g) || e != api.Fine {
		t.Error(e)
	}
}

// P49.1: the mean, rounded towards the least.
func TestMean(t *testing.T) {
	for _, c := range []struct {
		z Zone
		n int64
		e api.Code
	}{
		{Zone{Sum: 7, Area: 2}, 3, api.Fine}, {Zone{Sum: -7, Area: 2}, -4, api.Fine}, {Zone{Sum: -8, Area: 2}, -4, api.Fine}, {Zone{Sum: math.MinInt64, Area: 1}, math.MinInt64, api.Fine},
		{Zone{Sum: math.MinInt64, Area: math.MaxInt64}, -2, api.Fine}, {Zone{Sum: 7}, 0, api.Arg}, {Zone{Sum: 7, Area: -1}, 0, api.Arg}, {Zone{Sum: math.MinInt64, Area: -1}, 0, api.Arg},
	} {
		if n, e := Mean(c.z); n != c.n || e != c.e {
			t.Error(c, n, e)
		}
		if c.e == api.Fine {
			if want := new(big.Int).Div(big.NewInt(c.z.Sum), big.NewInt(c.z.Area)).Int64(); want != c.n {
				t.Error(c, want)
			}
		}
	}
}

// P49.3: each error in its order.
func TestErrors(t *testing.T) {
	g, _ := grid.New(2, 1, 0)
	for _, c := range []struct {
		g      *grid.Grid
		labels []int64
		v      int64
		e      api.Code
	}{
		{nil, nil, 1 << 40, api.Nil}, {&grid.Grid{}, nil, 0, api.Nil}, {g, nil, 1 << 40, api.Count}, {g, []int64{1}, 0, api.Count}, {g, []int64{1, 2, 3}, 0, api.Count},
		{g, []int64{1, 2}, api.MaxValue + 1, api.Value}, {g, []int64{1, 2}, api.MinValue - 1, api.Value}, {g, []int64{1, 2}, math.MinInt64, api.Value},
	} {
		if m, e := Mask(c.g, c.labels, 1, c.v); m != nil || e != c.e {
			t.Error(c, e)
		}
		if m, e := Mask(c.g, []int64{1, 1}, 1, c.v); c.e == api.Value && (m != nil || e != api.Value) {
			t.Error("though no cell has it", c, e)
		}
		l, e := Of(c.g, c.labels)
		p, e2 := Borders(c.g, c.labels)
		if c.e != api.Value && (l != nil || p != nil || e != c.e || e2 != c.e) {
			t.Error(c, l, p, e, e2)
		}
	}
}
