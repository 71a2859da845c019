package rank

import (
	"math"
	"slices"
	"testing"

	"hachure/api"
	"hachure/paint"
	"hachure/pyr"
	"hachure/sample"
)

var R = sample.Rect

// P30.1, P30.2, P30.3: against values that are sorted.
func TestAgainstSorted(t *testing.T) {
	d := sample.New(29)
	for k := range 120 {
		w, h := d.Between(1, 30), d.Between(1, 30)
		span := []int64{3, 100, api.MaxValue}[k%3]
		g, _ := paint.From(w, h, d.Values(int(w*h), -span, span))
		p, _ := pyr.Build(g)
		for range 4 {
			r := d.Rect(w, h)
			l, _ := g.Values(r)
			slices.Sort(l)
			n := int64(len(l))
			for _, k := range []int64{0, n - 1, d.Upto(n)} {
				if v, e := Kth(p, r, k); v != l[k] || e != api.Fine {
					t.Fatal(r, k, v, e)
				}
			}
			if v, e := Median(p, r); v != l[(n-1)/2] || e != api.Fine {
				t.Fatal(r, v, e)
			}
			for _, k := range []int64{-1, n, math.MinInt64, math.MaxInt64} {
				if v, e := Kth(p, r, k); v != 0 || e != api.Arg {
					t.Fatal(k, v, e)
				}
			}
			checkCounts(t, d, p, r, l, span)
		}
	}
}

func checkCounts(t *testing.T, d *sample.Dice, p *pyr.Pyr, r api.Rect, l []int64, span int64) {
	t.Helper()
	cuts := d.Values(int(d.Upto(6)), -span-2, span+2)
	slices.Sort(cuts)
	cuts = slices.Compact(cuts)
	want := make([]int64, len(cuts)+1)
	for _, v := range l {
		i := 0
		for i < len(cuts) && v >= cuts[i] {
			i++
		}
		want[i]++
	}
	if counts, e := Counts(p, r, cuts); !slices.Equal(counts, want) || e != api.Fine {
		t.Fatal(r, cuts, counts, e, want)
	}
}

// P30.2: cuts at the ends, none, and such as don't rise.
func TestCounts(t *testing.T) {
	g, _ := paint.From(3, 1, []int64{3, 1, 2})
	p, _ := pyr.Build(g)
	for _, c := range []struct {
		cuts, counts []int64
		e            api.Code
	}{
		{[]int64{2}, []int64{1, 2}, api.Fine}, {nil, []int64{3}, api.Fine}, {[]int64{math.MinInt64, math.MaxInt64}, []int64{0, 3, 0}, api.Fine},
		{[]int64{1, 1}, nil, api.Form}, {[]int64{2, 1}, nil, api.Form}, {[]int64{math.MaxInt64, math.MinInt64}, nil, api.Form},
	} {
		if l, e := Counts(p, g.All(), c.cuts); !slices.Equal(l, c.counts) || e != c.e {
			t.Error(c, l, e)
		}
	}
	if v, e := Median(p, g.All()); v != 2 || e != api.Fine {
		t.Error(v, e)
	}
	if v, e := Median(p, R(0, 0, 1, 0)); v != 1 || e != api.Fine {
		t.Error(v, e)
	}
}

// P30.1, P30.2: each error in its order.
func TestErrors(t *testing.T) {
	g, _ := paint.From(3, 1, []int64{3, 1, 2})
	p, _ := pyr.Build(g)
	for _, c := range []struct {
		p *pyr.Pyr
		r api.Rect
		e api.Code
	}{{nil, R(1, 0, 0, 0), api.Nil}, {&pyr.Pyr{}, R(1, 0, 0, 0), api.Nil}, {p, R(3, 0, 2, 0), api.Place}, {p, R(1, 0, 0, 0), api.Turned}} {
		v, e := Kth(c.p, c.r, -1)
		m, e2 := Median(c.p, c.r)
		l, e3 := Counts(c.p, c.r, []int64{1, 1})
		if v != 0 || m != 0 || l != nil || e != c.e || e2 != c.e || e3 != c.e {
			t.Error(c.r, v, e, m, e2, l, e3)
		}
	}
}
