package route

import (
	"math"
	"slices"
	"testing"

	"hachure/api"
	"hachure/grid"
	"hachure/paint"
	"hachure/sample"
)

var C = sample.Cell

func near(w, h, i int64) []int64 {
	var l []int64
	for j := range w * h {
		if dx, dy := j%w-i%w, j/w-i/w; dx*dx+dy*dy == 1 {
			l = append(l, j)
		}
	}
	return l
}

func step(l []int64, i, j int64) int64 {
	return 1 + max(l[i]-l[j], l[j]-l[i])
}

// plain reckons all costs from a cell, till none gets less.
func plain(l []int64, w, h, from int64) []int64 {
	costs := slices.Repeat([]int64{math.MaxInt64 / 2}, len(l))
	costs[from] = 0
	for less := true; less; {
		less = false
		for i := range w * h {
			for _, j := range near(w, h, i) {
				if c := costs[j] + step(l, i, j); c < costs[i] {
					costs[i], less = c, true
				}
			}
		}
	}
	return costs
}

// P32.1, P32.2, P32.3: against all costs, and the first of the cheapest ways.
func TestAgainstPlain(t *testing.T) {
	d := sample.New(31)
	for range 200 {
		w, h := d.Between(1, 8), d.Between(1, 8)
		l := d.Values(int(w*h), 0, d.Between(0, 9))
		g, _ := paint.From(w, h, l)
		a, b := d.Cell(w, h), d.Cell(w, h)
		from, to := a.Y*w+a.X, b.Y*w+b.X
		costs, left := plain(l, w, h, from), plain(l, w, h, to)
		if got, e := Costs(g, a); !slices.Equal(got, costs) || e != api.Fine {
			t.Fatal(got, e)
		}
		route := []api.Cell{a}
		for at := from; at != to; {
			for _, j := range near(w, h, at) {
				if left[j]+step(l, at, j) == left[at] {
					at = j
					break
				}
			}
			route = append(route, C(at%w, at/w))
		}
		n, got, e := Find(g, a, b)
		back, _, _ := Find(g, b, a)
		if n != costs[to] || back != n || !slices.Equal(got, route) || e != api.Fine {
			t.Fatal(a, b, n, got, e, route)
		}
		most := d.Between(-1, 30)
		var within []api.Cell
		for i, c := range costs {
			if c <= most {
				within = append(within, C(int64(i)%w, int64(i)/w))
			}
		}
		if got, e := Within(g, a, most); !slices.Equal(got, within) || e != api.Fine {
			t.Fatal(a, most, got, e)
		}
	}
}

// P32.1: the example, one cell, and steps as high as may be.
func TestFind(t *testing.T) {
	g, _ := paint.From(3, 2, []int64{0, 9, 0, 0, 0, 0})
	n, l, e := Find(g, C(0, 0), C(2, 0))
	if n != 4 || e != api.Fine || !slices.Equal(l, []api.Cell{C(0, 0), C(0, 1), C(1, 1), C(2, 1), C(2, 0)}) {
		t.Error(n, l, e)
	}
	if n, l, e := Find(g, C(1, 0), C(1, 0)); n != 0 || e != api.Fine || !slices.Equal(l, []api.Cell{C(1, 0)}) {
		t.Error(n, l, e)
	}
	high := make([]int64, 1024)
	for i := range high {
		high[i] = []int64{api.MinValue, api.MaxValue}[i%2]
	}
	ends, _ := paint.From(1024, 1, high)
	if n, l, e := Find(ends, C(0, 0), C(1023, 0)); n != 1023<<32 || len(l) != 1024 || e != api.Fine {
		t.Error(n, len(l), e)
	}
	if l, e := Within(ends, C(0, 0), math.MaxInt64); len(l) != 1024 || e != api.Fine {
		t.Error(len(l), e)
	}
	if l, e := Within(ends, C(0, 0), math.MinInt64); len(l) != 0 || e != api.Fine {
		t.Error(len(l), e)
	}
}

// P32.1, P32.2: each error.
func TestErrors(t *testing.T) {
	g, _ := grid.New(2, 1, 0)
	for _, c := range []struct {
		g *grid.Grid
		c api.Cell
		e api.Code
	}{{nil, C(9, 9), api.Nil}, {&grid.Grid{}, C(0, 0), api.Nil}, {g, C(2, 0), api.Place}, {g, C(0, 1), api.Place}, {g, C(-1, 0), api.Place}, {g, C(math.MinInt64, math.MaxInt64), api.Place}} {
		n, l, e := Find(c.g, c.c, C(0, 0))
		m, k, e2 := Find(c.g, C(0, 0), c.c)
		costs, e3 := Costs(c.g, c.c)
		cells, e4 := Within(c.g, c.c, 9)
		if n != 0 || m != 0 || l != nil || k != nil || costs != nil || cells != nil || e != c.e || e2 != c.e || e3 != c.e || e4 != c.e {
			t.Error(c, e, e2, e3, e4)
		}
	}
}
