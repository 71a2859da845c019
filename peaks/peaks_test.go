package peaks

import (
	"math"
	"slices"
	"testing"

	"hachure/api"
	"hachure/grid"
	"hachure/paint"
	"hachure/regions"
	"hachure/sample"
)

var C = sample.Cell

// plain finds peaks by their words: each cell's plateau, and what it is joined with.
func plain(g *grid.Grid) []Peak {
	w, h := g.Size()
	l, _ := g.Values(g.All())
	var peaks []Peak
	seen := map[api.Cell]bool{}
	for i := range w * h {
		c := C(i%w, i/w)
		if seen[c] {
			continue
		}
		p := Peak{First: c, Value: l[i], Rise: l[i] - slices.Min(l)}
		top := true
		// Of what is as high, or higher, and joined at this height, a peak has nothing that is higher.
		cells, _ := regions.Flood(g, c, l[i])
		for _, o := range cells {
			seen[o] = seen[o] || l[o.Y*w+o.X] == l[i] && top
			p.Area++
			top = top && l[o.Y*w+o.X] == l[i]
		}
		if !top {
			continue
		}
		joined := int64(math.MinInt64)
		for j := range w * h {
			if l[j] > l[i] {
				t, _ := regions.Joined(g, c, C(j%w, j/w))
				joined = max(joined, t)
			}
		}
		if joined > math.MinInt64 {
			p.Rise = l[i] - joined
		}
		for _, o := range cells {
			seen[o] = true
		}
		peaks = append(peaks, p)
	}
	return peaks
}

// P46.1, P46.2: against what regions tell.
func TestAgainstRegions(t *testing.T) {
	d := sample.New(47)
	for range 300 {
		w, h := d.Between(1, 9), d.Between(1, 9)
		g, _ := paint.From(w, h, d.Values(int(w*h), -3, d.Between(-3, 9)))
		want := plain(g)
		got, e := Of(g)
		if !slices.Equal(got, want) || e != api.Fine {
			v, _ := g.Values(g.All())
			t.Fatal(w, h, v, got, want, e)
		}
		rise, n := d.Between(-1, 8), int(d.Between(-1, 6))
		var over []Peak
		for _, p := range want {
			if p.Rise >= rise {
				over = append(over, p)
			}
		}
		if l, e := Over(g, rise); !slices.Equal(l, over) || e != api.Fine {
			t.Fatal(rise, l, over, e)
		}
		slices.SortStableFunc(want, func(p, q Peak) int { return int(q.Rise - p.Rise) })
		if l, e := Best(g, n); !slices.Equal(l, want[:min(max(n, 0), len(want))]) || e != api.Fine {
			t.Fatal(n, l, want, e)
		}
	}
}

// P46.1, P46.2: the example, a flat land, peaks as high as each other, numbers at their ends.
func TestSmall(t *testing.T) {
	for _, c := range []struct {
		row   []int64
		peaks []Peak
	}{
		{[]int64{1, 5, 2, 4, 0}, []Peak{{C(1, 0), 5, 1, 5}, {C(3, 0), 4, 1, 2}}},
		{[]int64{7, 7, 7}, []Peak{{C(0, 0), 7, 3, 0}}},
		{[]int64{5, 1, 5, 3, 4, 4, 0}, []Peak{{C(0, 0), 5, 1, 5}, {C(2, 0), 5, 1, 5}, {C(4, 0), 4, 2, 1}}},
		{[]int64{4, 2, 4, 1, 9}, []Peak{{C(0, 0), 4, 1, 3}, {C(2, 0), 4, 1, 3}, {C(4, 0), 9, 1, 8}}},
		{[]int64{api.MinValue, api.MaxValue}, []Peak{{C(1, 0), api.MaxValue, 1, api.MaxValue - api.MinValue}}},
	} {
		g, _ := paint.From(int64(len(c.row)), 1, c.row)
		if l, e := Of(g); !slices.Equal(l, c.peaks) || e != api.Fine {
			t.Error(c, l, e)
		}
	}
	g, _ := paint.From(5, 1, []int64{1, 5, 2, 4, 0})
	for _, c := range []struct{ n, want int }{{math.MinInt, 0}, {0, 0}, {1, 1}, {2, 2}, {math.MaxInt, 2}} {
		if l, e := Best(g, c.n); len(l) != c.want || e != api.Fine {
			t.Error(c, l, e)
		}
	}
	if l, _ := Over(g, math.MaxInt64); len(l) != 0 {
		t.Error(l)
	}
	if l, _ := Over(g, math.MinInt64); len(l) != 2 {
		t.Error(l)
	}
	if l, _ := Over(g, 3); len(l) != 1 {
		t.Error(l)
	}
}

// P46.1: many peaks that are all as high.
func TestMany(t *testing.T) {
	g, _ := grid.New(1024, 200, 0)
	for y := int64(0); y < 200; y += 2 {
		for x := int64(0); x < 1024; x += 2 {
			g.Set(C(x, y), 3)
		}
	}
	l, e := Of(g)
	if len(l) != 51200 || e != api.Fine || l[51199].Rise != 3 || l[0].Rise != 3 {
		t.Error(len(l), e)
	}
}

// P46.1, P46.2: without a grid.
func TestNil(t *testing.T) {
	for _, g := range []*grid.Grid{nil, {}} {
		a, e := Of(g)
		b, e2 := Over(g, 0)
		c, e3 := Best(g, 1)
		if a != nil || b != nil || c != nil || e != api.Nil || e2 != api.Nil || e3 != api.Nil {
			t.Error(e, e2, e3)
		}
	}
}
