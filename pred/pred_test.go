package pred

import (
	"math"
	"math/rand"
	"slices"
	"testing"

	"hachure/api"
)

// P4.1: predictors, widths, numbers of cells.
func TestRight(t *testing.T) {
	for _, c := range []struct {
		kind, width, n int
		right          bool
	}{
		{0, 1, 0, true}, {2, 3, 6, true}, {1, 3, 0, true}, {1, math.MaxInt, math.MaxInt, true},
		{-1, 1, 1, false}, {3, 1, 1, false}, {math.MinInt, 1, 1, false}, {0, 0, 0, false}, {0, -2, 4, false},
		{0, 1, -1, false}, {0, 3, 4, false}, {0, 3, -3, false}, {0, math.MinInt, 0, false},
	} {
		if Right(c.kind, c.width, c.n) != c.right {
			t.Error(c)
		}
	}
}

// P4.2: each predictor's guess in the first row, the first column, and elsewhere.
func TestGuess(t *testing.T) {
	cells := []int64{5, 7, 6, 2, 9, 4}
	for _, c := range []struct {
		kind, width, i int
		v              int64
	}{
		{api.Plain, 2, 3, 0}, {api.Left, 2, 0, 0}, {api.Left, 2, 1, 5}, {api.Left, 2, 2, 5}, {api.Left, 2, 3, 6}, {api.Left, 2, 4, 6},
		{api.Plane, 2, 0, 0}, {api.Plane, 2, 1, 5}, {api.Plane, 2, 2, 5}, {api.Plane, 2, 3, 7}, {api.Plane, 2, 4, 6}, {api.Plane, 2, 5, 5},
		{api.Plane, 3, 4, 4}, {api.Plane, 6, 5, 9}, {api.Plane, 1, 5, 9},
	} {
		if v, e := Guess(c.kind, cells, c.width, c.i); v != c.v || e != api.Fine {
			t.Error(c, v, e)
		}
	}
	if v, e := Guess(api.Plane, []int64{9, 1, 2, 0}, 2, 3); v != 1 || e != api.Fine {
		t.Error("the lesser one", v, e)
	}
}

func TestGuessErrors(t *testing.T) {
	far := []int64{1, api.MaxValue + 1, 1, api.MinValue - 1}
	for _, c := range []struct {
		kind, width, i int
		e              api.Code
	}{
		{3, 2, 9, api.Arg}, {0, 3, 9, api.Arg}, {0, 0, 0, api.Arg}, {0, 2, -1, api.Place}, {0, 2, 4, api.Place},
		{0, 2, math.MinInt, api.Place}, {0, 2, math.MaxInt, api.Place}, {0, 2, 1, api.Fine}, {0, 2, 2, api.Value}, {2, 2, 3, api.Value},
	} {
		if v, e := Guess(c.kind, far, c.width, c.i); e != c.e || v != 0 {
			t.Error(c, v, e)
		}
	}
	if _, e := Guess(0, nil, 1, 0); e != api.Place {
		t.Error(e)
	}
}

// P4.3: rests and cells, and their errors.
func TestRestsCells(t *testing.T) {
	if l, e := Rests(api.Plane, []int64{5, 7, 6, 9}, 2); e != api.Fine || !slices.Equal(l, []int64{5, 2, 1, 2}) {
		t.Error(l, e)
	}
	if l, e := Cells(api.Plane, []int64{5, 2, 1, 2}, 2); e != api.Fine || !slices.Equal(l, []int64{5, 7, 6, 9}) {
		t.Error(l, e)
	}
	for _, kind := range []int{-1, 3} {
		if l, e := Rests(kind, []int64{1 << 40}, 1); e != api.Arg || l != nil {
			t.Error(l, e)
		}
		if l, e := Cells(kind, []int64{1 << 40}, 1); e != api.Arg || l != nil {
			t.Error(l, e)
		}
	}
	for _, v := range []int64{api.MaxValue + 1, api.MinValue - 1, math.MaxInt64, math.MinInt64} {
		if l, e := Rests(api.Left, []int64{0, v}, 2); e != api.Value || l != nil {
			t.Error(l, e)
		}
		if l, e := Cells(api.Left, []int64{0, v}, 2); e != api.Value || l != nil {
			t.Error(l, e)
		}
	}
	if _, e := Cells(api.Left, []int64{api.MaxValue, 1}, 2); e != api.Value {
		t.Error(e)
	}
	if l, e := Cells(api.Left, []int64{api.MaxValue, -(1<<32 - 1)}, 2); e != api.Fine || l[1] != api.MinValue {
		t.Error(l, e)
	}
	ends := []int64{api.MinValue, api.MaxValue, api.MinValue}
	for kind, want := range [][]int64{ends, {api.MinValue, 1<<32 - 1, -(1<<32 - 1)}} {
		if l, e := Rests(kind, ends, 3); e != api.Fine || !slices.Equal(l, want) {
			t.Error(kind, l, e)
		}
		if l, e := Cells(kind, want, 3); e != api.Fine || !slices.Equal(l, ends) {
			t.Error(kind, l, e)
		}
	}
	if v, e := Guess(api.Left, ends, 3, 2); v != api.MaxValue || e != api.Fine {
		t.Error(v, e)
	}
	if l, e := Rests(api.Plain, nil, 7); e != api.Fine || len(l) != 0 {
		t.Error(l, e)
	}
}

// P4.4: cells have rests that have these cells, within 2^32 - 1; what was handed in stays.
func TestBack(t *testing.T) {
	r := rand.New(rand.NewSource(5))
	for range 500 {
		width, height, kind := 1+r.Intn(6), r.Intn(6), r.Intn(3)
		cells := make([]int64, width*height)
		for i := range cells {
			cells[i] = int64(int32(r.Uint32())) >> r.Intn(32)
		}
		was := slices.Clone(cells)
		rests, e := Rests(kind, cells, width)
		if e != api.Fine || !slices.Equal(was, cells) {
			t.Fatal(e)
		}
		for i, rest := range rests {
			likely, e := Guess(kind, cells, width, i)
			if e != api.Fine || rest != cells[i]-likely || rest > 1<<32-1 || rest < -(1<<32-1) {
				t.Fatal(i, rest, likely, e)
			}
		}
		if back, e := Cells(kind, rests, width); e != api.Fine || !slices.Equal(back, cells) {
			t.Fatal(cells, rests, back, e)
		}
	}
}
