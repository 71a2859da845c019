package down

import (
	"math"
	"math/big"
	"slices"
	"testing"

	"hachure/api"
	"hachure/grid"
	"hachure/paint"
	"hachure/sample"
	"hachure/tier"
)

// P18.1: each cell comes of those for which it stands.
func TestLevel(t *testing.T) {
	d := sample.New(13)
	for range 40 {
		w, h := d.Between(1, 36), d.Between(1, 36)
		g, _ := paint.From(w, h, d.Values(int(w*h), -9, 5))
		n, _ := tier.Levels(w, h)
		for k := range n {
			for how := range 3 {
				level, e := Level(g, k, how)
				across, along, _ := tier.Size(w, h, k)
				if lw, lh := level.Size(); e != api.Fine || lw != across || lh != along {
					t.Fatal(k, how, e)
				}
				for i := range across * along {
					c := sample.Cell(i%across, i/across)
					r, _ := tier.Span(w, h, k, c)
					l, _ := g.Values(r)
					if v, _ := level.At(c); v != plain(l, how) {
						t.Fatal(k, how, c, v)
					}
				}
			}
		}
	}
}

func plain(l []int64, how int) int64 {
	if how == Mean {
		sum := big.NewInt(0)
		for _, v := range l {
			sum.Add(sum, big.NewInt(v))
		}
		return sum.Div(sum, big.NewInt(int64(len(l)))).Int64()
	}
	return []int64{slices.Min(l), slices.Max(l)}[how]
}

// P18.1: the mean is rounded down, below 0 too; the grid stays; each error in its order.
func TestEdges(t *testing.T) {
	for _, c := range []struct{ a, b, mean int64 }{{3, 4, 3}, {-3, -4, -4}, {-1, 0, -1}, {1, -1, 0}, {api.MinValue, api.MinValue, api.MinValue}, {api.MaxValue, api.MaxValue, api.MaxValue}} {
		g, _ := paint.From(2, 1, []int64{c.a, c.b})
		level, _ := Level(g, 1, Mean)
		if v, _ := level.At(sample.Cell(0, 0)); v != c.mean {
			t.Error(c, v)
		}
	}
	g, _ := grid.New(5, 3, 1)
	for _, c := range []struct {
		g      *grid.Grid
		k, how int
		e      api.Code
	}{{nil, -1, 9, api.Nil}, {&grid.Grid{}, 0, 0, api.Nil}, {g, -1, 0, api.Arg}, {g, 4, 0, api.Arg}, {g, 0, -1, api.Arg}, {g, 0, 3, api.Arg}, {g, math.MaxInt, math.MinInt, api.Arg}} {
		if l, e := Level(c.g, c.k, c.how); l != nil || e != c.e {
			t.Error(c.k, c.how, e)
		}
	}
	for _, c := range []struct {
		g   *grid.Grid
		how int
		e   api.Code
	}{{nil, 9, api.Nil}, {g, 3, api.Arg}, {g, -1, api.Arg}} {
		if l, e := Row(c.g, c.how); l != nil || e != c.e {
			t.Error(c.how, e)
		}
	}
	level, _ := Level(g, 0, Mean)
	level.Set(sample.Cell(0, 0), 9)
	if v, _ := g.At(sample.Cell(0, 0)); v != 1 {
		t.Error("the grid changed")
	}
}

// P18.2: level 0 is the grid; least, mean, greatest stand in order; least and greatest come of the level ahead.
func TestRow(t *testing.T) {
	d := sample.New(14)
	for range 30 {
		w, h := d.Between(1, 30), d.Between(1, 30)
		g, _ := paint.From(w, h, d.Values(int(w*h), -9, 9))
		var rows [3][]*grid.Grid
		for how := range rows {
			row, e := Row(g, how)
			n, _ := tier.Levels(w, h)
			if e != api.Fine || len(row) != n || !grid.Same(row[0], g) {
				t.Fatal(e, len(row))
			}
			rows[how] = row
			for k := 1; k < n && how != Mean; k++ {
				if next, e := Level(row[k-1], 1, how); e != api.Fine || !grid.Same(next, row[k]) {
					t.Fatal(k, how, e)
				}
			}
		}
		for k := range rows[0] {
			lo, _ := rows[Least][k].Values(rows[Least][k].All())
			mid, _ := rows[Mean][k].Values(rows[Mean][k].All())
			hi, _ := rows[Most][k].Values(rows[Most][k].All())
			for i := range lo {
				if lo[i] > mid[i] || mid[i] > hi[i] {
					t.Fatal(k, i)
				}
			}
		}
	}
}
