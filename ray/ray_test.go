package ray

import (
	"math"
	"slices"
	"testing"

	"hachure/api"
	"hachure/sample"
)

var C = sample.Cell

// P23.1: the cells, by the closed form.
func TestRow(t *testing.T) {
	for _, c := range []struct {
		a, b api.Cell
		row  []api.Cell
	}{
		{C(0, 0), C(3, 1), []api.Cell{C(0, 0), C(1, 0), C(2, 1), C(3, 1)}},
		{C(3, 1), C(0, 0), []api.Cell{C(3, 1), C(2, 1), C(1, 0), C(0, 0)}},
		{C(0, 0), C(2, 1), []api.Cell{C(0, 0), C(1, 1), C(2, 1)}},
		{C(2, 1), C(0, 0), []api.Cell{C(2, 1), C(1, 0), C(0, 0)}},
		{C(0, 0), C(1, 2), []api.Cell{C(0, 0), C(1, 1), C(1, 2)}},
		{C(5, 7), C(5, 7), []api.Cell{C(5, 7)}},
		{C(5, 7), C(3, 9), []api.Cell{C(5, 7), C(4, 8), C(3, 9)}},
		{C(1, 4), C(1, 2), []api.Cell{C(1, 4), C(1, 3), C(1, 2)}},
	} {
		row, e := Row(c.a, c.b)
		n, e2 := Len(c.a, c.b)
		if !slices.Equal(row, c.row) || e != api.Fine || n != int64(len(c.row)-1) || e2 != api.Fine {
			t.Error(c, row, e, n, e2)
		}
	}
}

// P23.1: each error in its order.
func TestErrors(t *testing.T) {
	for _, c := range []api.Cell{C(-1, 0), C(0, -1), C(1024, 0), C(0, 1024), C(math.MinInt64, math.MaxInt64)} {
		for _, p := range [][2]api.Cell{{c, C(0, 0)}, {C(0, 0), c}, {c, c}} {
			n, e := Len(p[0], p[1])
			at, e2 := At(p[0], p[1], -1)
			row, e3 := Row(p[0], p[1])
			if n != 0 || at != (api.Cell{}) || row != nil || e != api.Place || e2 != api.Place || e3 != api.Place {
				t.Error(p, e, e2, e3)
			}
		}
	}
	for _, i := range []int64{-1, 4, math.MinInt64, math.MaxInt64} {
		if c, e := At(C(0, 0), C(3, 1), i); c != (api.Cell{}) || e != api.Arg {
			t.Error(i, c, e)
		}
	}
	if c, e := At(C(9, 9), C(9, 9), 0); c != C(9, 9) || e != api.Fine {
		t.Error(c, e)
	}
}

// P23.2: ends, neighbours, axes changed for one another, columns mirrored.
func TestFollows(t *testing.T) {
	d := sample.New(22)
	for k := range 3000 {
		side := int64(12)
		if k%3 == 0 {
			side = 1024
		}
		a, b := d.Cell(side, side), d.Cell(side, side)
		row, _ := Row(a, b)
		swapped, _ := Row(C(a.Y, a.X), C(b.Y, b.X))
		mirrored, _ := Row(C(1023-a.X, a.Y), C(1023-b.X, b.Y))
		if row[0] != a || row[len(row)-1] != b || len(swapped) != len(row) || len(mirrored) != len(row) {
			t.Fatal(a, b)
		}
		for i, c := range row {
			at, e := At(a, b, int64(i))
			if at != c || e != api.Fine || swapped[i] != C(c.Y, c.X) || mirrored[i] != C(1023-c.X, c.Y) {
				t.Fatal(a, b, i, at, e)
			}
			if i > 0 {
				dx, dy := c.X-row[i-1].X, c.Y-row[i-1].Y
				if dx*dx > 1 || dy*dy > 1 || dx == 0 && dy == 0 {
					t.Fatal(a, b, i)
				}
			}
		}
	}
}
