package fen

import (
	"math"
	"testing"

	"hachure/api"
	"hachure/grid"
	"hachure/paint"
	"hachure/rect"
	"hachure/sample"
)

var R, C = sample.Rect, sample.Cell

// P19.1: sizes, a grid's values, and errors.
func TestNewOf(t *testing.T) {
	for _, s := range [][2]int64{{0, 1}, {1, 0}, {1025, 1}, {1, 1025}, {math.MinInt64, math.MaxInt64}} {
		if f, e := New(s[0], s[1]); f != nil || e != api.Size {
			t.Error(s, e)
		}
	}
	f, e := New(1024, 3)
	if w, h := f.Size(); w != 1024 || h != 3 || e != api.Fine {
		t.Error(w, h, e)
	}
	if f, e := Of(nil); f != nil || e != api.Nil {
		t.Error(e)
	}
	d := sample.New(15)
	for range 60 {
		w, h := d.Between(1, 40), d.Between(1, 40)
		l := d.Values(int(w*h), api.MinValue, api.MaxValue)
		g, _ := paint.From(w, h, l)
		f, e := Of(g)
		g.Fill(g.All(), 0)
		if fw, fh := f.Size(); fw != w || fh != h || e != api.Fine {
			t.Fatal(fw, fh, e)
		}
		check(t, d, f, l, w, h)
	}
}

// check holds all numbers, and some sums, against a plain list.
func check(t *testing.T, d *sample.Dice, f *Fen, l []int64, w, h int64) {
	t.Helper()
	for i, v := range l {
		if n, e := f.At(C(int64(i)%w, int64(i)/w)); n != v || e != api.Fine {
			t.Fatal(i, n, v, e)
		}
	}
	for _, r := range []api.Rect{R(0, 0, w-1, h-1), d.Rect(w, h), d.Rect(w, h), d.Rect(w, h)} {
		sum := int64(0)
		for i := range rect.Area(r) {
			c, _ := rect.Nth(r, i)
			sum += l[c.Y*w+c.X]
		}
		if n, e := f.Sum(r); n != sum || e != api.Fine {
			t.Fatal(r, n, sum, e)
		}
	}
}

// P19.2: numbers and sums go with what is added.
func TestAddSum(t *testing.T) {
	f, _ := New(2, 2)
	f.Add(C(0, 0), 5)
	f.Add(C(1, 1), 7)
	if n, _ := f.Sum(R(0, 0, 1, 1)); n != 12 {
		t.Error(n)
	}
	if n, _ := f.Sum(R(1, 0, 1, 1)); n != 7 {
		t.Error(n)
	}
	d := sample.New(16)
	for range 60 {
		w, h := d.Between(1, 40), d.Between(1, 40)
		f, _ := New(w, h)
		l := make([]int64, w*h)
		for range 30 {
			c, v := d.Cell(w, h), d.Between(-1<<40, 1<<40)
			e := f.Add(c, v)
			sum := l[c.Y*w+c.X] + v
			if sum > 1<<40 || sum < -1<<40 {
				if e != api.Value {
					t.Fatal(c, v, e)
				}
				continue
			}
			if e != api.Fine {
				t.Fatal(c, v, e)
			}
			l[c.Y*w+c.X] = sum
		}
		check(t, d, f, l, w, h)
	}
}

// P19.2: each error in its order; beside an error nothing changes.
func TestErrors(t *testing.T) {
	f, _ := New(3, 2)
	f.Add(C(1, 1), 1<<40)
	for _, c := range []struct {
		c api.Cell
		d int64
		e api.Code
	}{
		{C(3, 0), math.MaxInt64, api.Place}, {C(0, 2), 0, api.Place}, {C(-1, 0), 0, api.Place}, {C(0, -1), math.MaxInt64, api.Place}, {C(math.MaxInt64, math.MinInt64), 0, api.Place},
		{C(0, 0), 1<<40 + 1, api.Value}, {C(0, 0), -1<<40 - 1, api.Value}, {C(0, 0), math.MaxInt64, api.Value}, {C(0, 0), math.MinInt64, api.Value},
		{C(1, 1), 1, api.Value}, {C(1, 1), -1<<41 - 1, api.Value}, {C(1, 1), math.MaxInt64, api.Value}, {C(1, 1), math.MinInt64, api.Value},
	} {
		if e := f.Add(c.c, c.d); e != c.e {
			t.Error(c, e)
		}
		if _, e := f.At(c.c); c.e == api.Place && e != api.Place {
			t.Error(c, e)
		}
	}
	for _, c := range []struct {
		r api.Rect
		e api.Code
	}{{R(0, 0, 3, 0), api.Place}, {R(3, 0, 2, 0), api.Place}, {R(1, 0, 0, 0), api.Turned}, {R(0, 1, 0, 0), api.Turned}} {
		if n, e := f.Sum(c.r); n != 0 || e != c.e {
			t.Error(c, n, e)
		}
	}
	if n, _ := f.Sum(R(0, 0, 2, 1)); n != 1<<40 {
		t.Error(n)
	}
	if e := f.Add(C(1, 1), -1<<41); e != api.Fine {
		t.Error(e)
	}
	if n, _ := f.At(C(1, 1)); n != -1<<40 {
		t.Error(n)
	}
}

// P19.2: all numbers at their ends.
func TestFull(t *testing.T) {
	g, _ := grid.New(1024, 1024, 0)
	f, _ := Of(g)
	for y := range int64(1024) {
		for x := range int64(1024) {
			f.Add(C(x, y), -1<<40)
		}
	}
	if n, e := f.Sum(g.All()); n != -1<<60 || e != api.Fine {
		t.Error(n, e)
	}
	if n, e := f.Sum(R(1, 1, 1022, 1022)); n != -1022*1022<<40 || e != api.Fine {
		t.Error(n, e)
	}
}

func TestNil(t *testing.T) {
	for _, f := range []*Fen{nil, {}} {
		w, h := f.Size()
		n, e := f.At(C(-1, 0))
		s, e2 := f.Sum(R(1, 0, 0, 0))
		if w != 0 || h != 0 || n != 0 || e != api.Nil || s != 0 || e2 != api.Nil || f.Add(C(-1, 0), math.MaxInt64) != api.Nil {
			t.Error("nil")
		}
	}
}
