package fill

import (
	"slices"
	"testing"

	"hachure/api"
	"hachure/grid"
	"hachure/paint"
	"hachure/regions"
	"hachure/sample"
)

var R, C = sample.Rect, sample.Cell

// plain lowers all levels, till none gets less.
func plain(l []int64, w, h int64) []int64 {
	levels := slices.Repeat([]int64{api.MaxValue}, len(l))
	for less := true; less; {
		less = false
		for i := range w * h {
			x, y := i%w, i/w
			least := levels[i]
			if x == 0 || y == 0 || x == w-1 || y == h-1 {
				least = l[i]
			} else {
				for _, j := range []int64{i - 1, i + 1, i - w, i + w} {
					least = min(least, max(levels[j], l[i]))
				}
			}
			if least < levels[i] {
				levels[i], less = least, true
			}
		}
	}
	return levels
}

// P45.1, P45.2, P45.3: against levels that are lowered, and regions of what is wet.
func TestAgainstPlain(t *testing.T) {
	d := sample.New(46)
	for range 200 {
		w, h := d.Between(1, 14), d.Between(1, 14)
		l := d.Values(int(w*h), 0, d.Between(1, 9))
		g, _ := paint.From(w, h, l)
		want := plain(l, w, h)
		levels, e := Levels(g)
		if got, _ := levels.Values(levels.All()); !slices.Equal(got, want) || e != api.Fine {
			t.Fatal(got, e, want)
		}
		total := int64(0)
		depths, e := Depths(g)
		for i := range want {
			total += want[i] - l[i]
			if depths[i] != want[i]-l[i] || depths[i] < 0 {
				t.Fatal(i, depths[i])
			}
		}
		if n, e2 := Volume(g); n != total || e != api.Fine || e2 != api.Fine {
			t.Fatal(n, total, e, e2)
		}
		checkLakes(t, g, depths, want)
		if lakes, e := Lakes(levels); len(lakes) != 0 || e != api.Fine {
			t.Fatal(lakes, e)
		}
	}
}

func checkLakes(t *testing.T, g *grid.Grid, depths, levels []int64) {
	t.Helper()
	w, h := g.Size()
	deep, _ := paint.From(w, h, depths)
	labels, want, _ := regions.Of(deep, 1)
	lakes, e := Lakes(g)
	if !slices.Equal(lakes, want) || e != api.Fine {
		t.Fatal(lakes, e, want)
	}
	for i, label := range labels {
		if label == 0 {
			continue
		}
		first := lakes[label-1].First
		if levels[i] != levels[first.Y*w+first.X] {
			t.Fatal("two levels in a lake")
		}
	}
}

// P45.1, P45.2: the example, and depths as great as may be.
func TestSmall(t *testing.T) {
	g, _ := paint.From(3, 3, []int64{3, 3, 3, 3, 1, 2, 3, 3, 3})
	if l, e := Depths(g); !slices.Equal(l, []int64{0, 0, 0, 0, 1, 0, 0, 0, 0}) || e != api.Fine {
		t.Error(l, e)
	}
	if l, e := Lakes(g); !slices.Equal(l, []api.Part{{Label: 1, Area: 1, First: C(1, 1), Box: R(1, 1, 1, 1)}}) || e != api.Fine {
		t.Error(l, e)
	}
	deep, _ := grid.New(4, 3, api.MaxValue)
	deep.Fill(R(1, 1, 2, 1), api.MinValue)
	if n, e := Volume(deep); n != 2*(api.MaxValue-api.MinValue) || e != api.Fine {
		t.Error(n, e)
	}
	if l, e := Lakes(deep); len(l) != 1 || l[0].Area != 2 || e != api.Fine {
		t.Error(l, e)
	}
	levels, _ := Levels(deep)
	levels.Set(C(0, 0), 1)
	if v, _ := deep.At(C(0, 0)); v != api.MaxValue {
		t.Error("the grid changed")
	}
}

// P45.1, P45.2: without a grid.
func TestNil(t *testing.T) {
	for _, g := range []*grid.Grid{nil, {}} {
		a, e := Levels(g)
		l, e2 := Depths(g)
		p, e3 := Lakes(g)
		n, e4 := Volume(g)
		if a != nil || l != nil || p != nil || n != 0 || e != api.Nil || e2 != api.Nil || e3 != api.Nil || e4 != api.Nil {
			t.Error(e, e2, e3, e4)
		}
	}
}
