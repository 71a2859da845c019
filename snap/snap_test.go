package snap

import (
	"math"
	"slices"
	"testing"

	"hachure/api"
	"hachure/grid"
	"hachure/paint"
	"hachure/pyr"
	"hachure/sample"
)

var R, C = sample.Rect, sample.Cell

func plain(g *grid.Grid, r api.Rect) (int64, api.Range) {
	l, _ := g.Values(r)
	sum := int64(0)
	for _, v := range l {
		sum += v
	}
	return sum, api.Range{Min: slices.Min(l), Max: slices.Max(l)}
}

// P22.1: a snapshot tells what was; its stamp, and errors.
func TestSnap(t *testing.T) {
	d := sample.New(19)
	for range 60 {
		w, h, stamp := d.Between(1, 40), d.Between(1, 40), d.Between(-5, 5)
		g, _ := paint.From(w, h, d.Values(int(w*h), -90, 90))
		was := g.Copy()
		s, e := Take(g, stamp)
		g.Fill(d.Rect(w, h), 500)
		if sw, sh := s.Size(); sw != w || sh != h || e != api.Fine || s.Stamp() != stamp || !s.Fresh(stamp) || s.Fresh(stamp+1) {
			t.Fatal(sw, sh, e, s.Stamp())
		}
		for range 6 {
			r := d.Rect(w, h)
			sum, rg := plain(was, r)
			if n, e := s.Sum(r); n != sum || e != api.Fine {
				t.Fatal(r, n, e)
			}
			if got, e := s.Range(r); got != rg || e != api.Fine {
				t.Fatal(r, got, e)
			}
		}
	}
	g, _ := grid.New(3, 2, 0)
	s, _ := Take(g, math.MinInt64)
	for _, c := range []struct {
		r api.Rect
		e api.Code
	}{{R(3, 0, 2, 0), api.Place}, {R(1, 0, 0, 0), api.Turned}} {
		n, e := s.Sum(c.r)
		rg, e2 := s.Range(c.r)
		if n != 0 || rg != (api.Range{}) || e != c.e || e2 != c.e {
			t.Error(c, n, rg, e, e2)
		}
	}
}

// P22.2: live indexes go by what is told to be changed, also where it is much at once.
func TestLive(t *testing.T) {
	d := sample.New(20)
	for range 60 {
		w, h := d.Between(1, 40), d.Between(1, 40)
		g, _ := paint.From(w, h, d.Values(int(w*h), -90, 90))
		l, e := Follow(g)
		if e != api.Fine {
			t.Fatal(e)
		}
		p := l.Pyr()
		for range 12 {
			r, ask := d.Rect(w, h), d.Rect(w, h)
			if d.Upto(4) == 0 {
				r = g.All()
			}
			g.Fill(r, d.Between(-400, 400))
			if e := l.Changed(r); e != api.Fine {
				t.Fatal(e)
			}
			sum, rg := plain(g, ask)
			if n, by, e := l.Sum(nil, 0, ask); n != sum || by || e != api.Fine {
				t.Fatal(ask, n, sum, by, e)
			}
			if got, by, e := l.Range(nil, 0, ask); got != rg || by || e != api.Fine {
				t.Fatal(ask, got, by, e)
			}
			if now, _ := pyr.Build(g); !pyr.Same(now, l.Pyr()) || l.Pyr() != p {
				t.Fatal("the pyramid")
			}
		}
	}
}

// P22.2: what isn't told isn't seen.
func TestUntold(t *testing.T) {
	g, _ := grid.New(4, 4, 0)
	l, _ := Follow(g)
	g.Fill(g.All(), 1)
	l.Changed(R(0, 0, 3, 2))
	if n, _, _ := l.Sum(nil, 0, g.All()); n != 12 {
		t.Error(n)
	}
	if rg, _, _ := l.Range(nil, 0, R(0, 3, 3, 3)); rg != (api.Range{}) {
		t.Error(rg)
	}
}

// P22.3: which index tells, and each error in its order.
func TestWhich(t *testing.T) {
	g, _ := grid.New(3, 2, 0)
	l, _ := Follow(g)
	s, _ := Take(g, 3)
	turned, _ := grid.New(2, 3, 7)
	other, _ := Take(turned, 3)
	g.Set(C(0, 0), 5)
	l.Changed(R(0, 0, 0, 0))
	for _, c := range []struct {
		s     *Snap
		stamp int64
		sum   int64
		by    bool
	}{{s, 3, 0, true}, {s, 4, 5, false}, {nil, 3, 5, false}, {nil, 0, 5, false}, {other, 3, 5, false}, {&Snap{}, 0, 5, false}} {
		if n, by, e := l.Sum(c.s, c.stamp, g.All()); n != c.sum || by != c.by || e != api.Fine {
			t.Error(c, n, by, e)
		}
		if rg, by, e := l.Range(c.s, c.stamp, g.All()); rg.Max != c.sum || rg.Min != 0 || by != c.by || e != api.Fine {
			t.Error(c, rg, by, e)
		}
	}
	for _, c := range []struct {
		r api.Rect
		e api.Code
	}{{R(3, 0, 2, 0), api.Place}, {R(0, 2, 0, 0), api.Place}, {R(1, 0, 0, 0), api.Turned}} {
		n, by, e := l.Sum(s, 3, c.r)
		rg, by2, e2 := l.Range(s, 3, c.r)
		if n != 0 || by || by2 || rg != (api.Range{}) || e != c.e || e2 != c.e || l.Changed(c.r) != c.e {
			t.Error(c, n, by, e, rg, by2, e2)
		}
	}
}

// P22.4: where each change has another stamp, what is told hangs on the grid alone.
func TestStamps(t *testing.T) {
	d := sample.New(21)
	g, _ := grid.New(20, 20, 0)
	l, _ := Follow(g)
	var s *Snap
	for stamp := range int64(200) {
		r := d.Rect(20, 20)
		g.Fill(r, d.Between(-9, 9))
		l.Changed(r)
		if d.Upto(3) == 0 {
			s, _ = Take(g, stamp)
		}
		ask := d.Rect(20, 20)
		sum, rg := plain(g, ask)
		n, by, _ := l.Sum(s, stamp, ask)
		got, by2, _ := l.Range(s, stamp, ask)
		if n != sum || got != rg || by != s.Fresh(stamp) || by2 != by {
			t.Fatal(stamp, n, sum, got, rg, by)
		}
	}
}

func TestNil(t *testing.T) {
	if s, e := Take(nil, 1); s != nil || e != api.Nil {
		t.Error(e)
	}
	if l, e := Follow(nil); l != nil || e != api.Nil {
		t.Error(e)
	}
	var none *Snap
	if none.Stamp() != 0 || none.Fresh(0) {
		t.Error("nil")
	}
	for _, s := range []*Snap{nil, {}} {
		w, h := s.Size()
		n, e := s.Sum(R(1, 0, 0, 0))
		rg, e2 := s.Range(R(1, 0, 0, 0))
		if w != 0 || h != 0 || n != 0 || rg != (api.Range{}) || e != api.Nil || e2 != api.Nil {
			t.Error("nil")
		}
	}
	g, _ := grid.New(1, 1, 0)
	s, _ := Take(g, 0)
	for _, l := range []*Live{nil, {}} {
		n, by, e := l.Sum(s, 0, R(1, 0, 0, 0))
		rg, by2, e2 := l.Range(s, 0, R(1, 0, 0, 0))
		if n != 0 || by || by2 || rg != (api.Range{}) || e != api.Nil || e2 != api.Nil || l.Changed(R(1, 0, 0, 0)) != api.Nil || l.Pyr() != nil {
			t.Error("nil")
		}
	}
}
