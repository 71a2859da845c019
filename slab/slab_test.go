package slab

import (
	"math"
	"slices"
	"testing"

	"hachure/api"
	"hachure/sample"
)

var R, C = sample.Rect, sample.Cell

// P8.1: what New takes, and each error in its order; sizes; copies.
func TestNew(t *testing.T) {
	for _, c := range []struct {
		w, h, v int64
		e       api.Code
	}{
		{1, 1, 0, api.Fine}, {16, 16, api.MaxValue, api.Fine}, {2, 3, api.MinValue, api.Fine}, {0, 1, 1 << 40, api.Size}, {1, 17, 1 << 40, api.Size},
		{math.MinInt64, 1, 0, api.Size}, {1, math.MaxInt64, 0, api.Size}, {1<<32 + 1, 1, 0, api.Size}, {1, 1, api.MaxValue + 1, api.Value}, {1, 1, api.MinValue - 1, api.Value},
	} {
		s, e := New(c.w, c.h, c.v)
		if e != c.e || (s == nil) != (e != api.Fine) {
			t.Error(c, e)
		}
		if s != nil {
			if w, h := s.Size(); w != c.w || h != c.h || len(s.Cells()) != int(w*h) || s.Cells()[0] != c.v {
				t.Error(c, w, h)
			}
		}
	}
}

func TestCopy(t *testing.T) {
	s, _ := New(3, 2, 4)
	for range 2 {
		c := s.Copy()
		was := s.Cells()
		s.Set(C(1, 1), 9)
		if !slices.Equal(c.Cells(), was) {
			t.Error(c.Cells())
		}
		c.Set(C(0, 0), 7)
		if v, _ := s.At(C(0, 0)); v != 4 {
			t.Error(v)
		}
	}
}

// P8.2, P8.3: cells, fills, and what they are together, against a plain list.
func TestAgainstList(t *testing.T) {
	d := sample.New(1)
	for range 300 {
		w, h := d.Between(1, 16), d.Between(1, 16)
		s, _ := New(w, h, 0)
		l := make([]int64, w*h)
		for range 30 {
			v := d.Between(0, 1) * d.Between(-3, 3)
			if d.Upto(2) == 0 {
				c := d.Cell(w, h)
				if e := s.Set(c, v); e != api.Fine {
					t.Fatal(e)
				}
				l[c.Y*w+c.X] = v
			} else {
				r := d.Rect(w, h)
				if e := s.Fill(r, v); e != api.Fine {
					t.Fatal(e)
				}
				for y := r.Y0; y <= r.Y1; y++ {
					for x := r.X0; x <= r.X1; x++ {
						l[y*w+x] = v
					}
				}
			}
			checkList(t, s, l)
		}
	}
}

func checkList(t *testing.T, s *Slab, l []int64) {
	t.Helper()
	rg := api.Range{Min: slices.Min(l), Max: slices.Max(l)}
	v, flat := s.Flat()
	if !slices.Equal(s.Cells(), l) || s.Range() != rg || flat != (rg.Min == rg.Max) || flat && v != l[0] || !flat && v != 0 {
		t.Fatal(s.Cells(), s.Range(), v, flat, l)
	}
	w, _ := s.Size()
	for i := range l {
		if got, e := s.At(C(int64(i)%w, int64(i)/w)); got != l[i] || e != api.Fine {
			t.Fatal(i, got, e)
		}
	}
}

// P8.2: each error in its order; beside an error nothing changes.
func TestErrors(t *testing.T) {
	s, _ := New(3, 2, 4)
	for _, c := range []api.Cell{C(3, 0), C(0, 2), C(-1, 0), C(0, -1), C(math.MaxInt64, math.MinInt64)} {
		if v, e := s.At(c); v != 0 || e != api.Place {
			t.Error(c, v, e)
		}
		if e := s.Set(c, 1<<40); e != api.Place {
			t.Error(c, e)
		}
	}
	for _, v := range []int64{api.MaxValue + 1, api.MinValue - 1, math.MaxInt64, math.MinInt64} {
		if e := s.Set(C(0, 0), v); e != api.Value {
			t.Error(v, e)
		}
		if e := s.Fill(R(0, 0, 2, 1), v); e != api.Value {
			t.Error(v, e)
		}
	}
	for _, r := range []api.Rect{R(0, 0, 3, 0), R(-1, 0, 0, 0), R(3, 0, 2, 0)} {
		if e := s.Fill(r, 1<<40); e != api.Place {
			t.Error(r, e)
		}
	}
	if e := s.Fill(R(1, 0, 0, 0), 1<<40); e != api.Turned {
		t.Error(e)
	}
	if v, flat := s.Flat(); v != 4 || !flat {
		t.Error(v, flat)
	}
}

// P8.3: a cell that is set, and set back, leaves all flat; what is told is the caller's.
func TestFlat(t *testing.T) {
	s, _ := New(2, 1, 5)
	s.Set(C(1, 0), 6)
	if v, flat := s.Flat(); v != 0 || flat {
		t.Error(v, flat)
	}
	s.Cells()[0] = 9
	s.Set(C(1, 0), 5)
	if v, flat := s.Flat(); v != 5 || !flat {
		t.Error(v, flat)
	}
}

func TestNil(t *testing.T) {
	for _, s := range []*Slab{nil, {}} {
		w, h := s.Size()
		v, e := s.At(C(0, 0))
		f, flat := s.Flat()
		if w != 0 || h != 0 || v != 0 || e != api.Nil || f != 0 || flat || s.Range() != (api.Range{}) || len(s.Cells()) != 0 {
			t.Error("nil")
		}
		if s.Set(C(-1, 0), 1<<40) != api.Nil || s.Fill(R(1, 0, 0, 0), 0) != api.Nil {
			t.Error("nil")
		}
	}
	var s *Slab
	if s.Copy() != nil {
		t.Error("nil")
	}
}
