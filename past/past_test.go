package past

import (
	"slices"
	"testing"

	"hachure/api"
	"hachure/sample"
)

// step is a patch of one cell from n to n + 1.
func step(n int64) api.Patch {
	return api.Patch{R: sample.Rect(3, 4, 3, 4), Old: []int64{n}, New: []int64{n + 1}}
}

func same(a, b api.Patch) bool {
	return a.R == b.R && slices.Equal(a.Old, b.Old) && slices.Equal(a.New, b.New)
}

func has(t *testing.T, p *Past, done, back int) {
	t.Helper()
	if d, b := p.Len(); d != done || b != back {
		t.Errorf("%d, %d, not %d, %d", d, b, done, back)
	}
}

// P35.1: what is done, and each error in its order.
func TestDid(t *testing.T) {
	var none *Past
	if none.Did(api.Patch{Old: []int64{1}}) != api.Nil {
		t.Error("nil")
	}
	p := New()
	has(t, p, 0, 0)
	for _, x := range []api.Patch{{Old: []int64{1}}, {R: sample.Rect(1, 0, 0, 0)}, {Old: []int64{1}, New: []int64{1 << 40}}} {
		if e := p.Did(x); e != api.Form {
			t.Error(x, e)
		}
	}
	has(t, p, 0, 0)
	for n := range int64(3) {
		if e := p.Did(step(n)); e != api.Fine {
			t.Error(e)
		}
	}
	p.Back()
	has(t, p, 2, 1)
	if e := p.Did(api.Patch{}); e != api.Fine {
		t.Error(e)
	}
	has(t, p, 2, 1)
	if e := p.Did(api.Patch{Old: []int64{1}}); e != api.Form {
		t.Error(e)
	}
	has(t, p, 2, 1)
	p.Did(step(9))
	has(t, p, 3, 0)
	if x, e := p.Again(); e != api.Lost || !same(x, api.Patch{}) {
		t.Error(x, e)
	}
}

// P35.1: the first one is forgotten.
func TestMost(t *testing.T) {
	p := New()
	for n := range int64(api.MaxPast + 3) {
		p.Did(step(n))
	}
	has(t, p, api.MaxPast, 0)
	for n := int64(api.MaxPast + 2); n >= 3; n-- {
		if x, e := p.Back(); e != api.Fine || x.New[0] != n {
			t.Fatal(n, x, e)
		}
	}
	if _, e := p.Back(); e != api.Lost {
		t.Error(e)
	}
	has(t, p, 0, api.MaxPast)
	p.Did(step(0))
	has(t, p, 1, 0)
}

// P35.2, P35.3: back and again, in order; Clear; what is told is the caller's.
func TestBackAgain(t *testing.T) {
	p := New()
	if x, e := p.Back(); e != api.Lost || !same(x, api.Patch{}) {
		t.Error(x, e)
	}
	x := step(1)
	p.Did(x)
	x.Old[0], x.New[0] = 77, 78
	p.Did(step(2))
	for range 3 {
		for _, n := range []int64{2, 1} {
			back, e := p.Back()
			if e != api.Fine || back.Old[0] != n+1 || back.New[0] != n || back.R != x.R {
				t.Fatal(n, back, e)
			}
			back.Old[0], back.New[0] = 99, 99
		}
		has(t, p, 0, 2)
		for _, n := range []int64{1, 2} {
			again, e := p.Again()
			if e != api.Fine || !same(again, step(n)) {
				t.Fatal(n, again, e)
			}
			again.Old[0], again.New[0] = 99, 99
		}
		has(t, p, 2, 0)
	}
	if x, e := p.Again(); e != api.Lost || !same(x, api.Patch{}) {
		t.Error(x, e)
	}
	p.Back()
	p.Clear()
	has(t, p, 0, 0)
	_, e := p.Back()
	_, e2 := p.Again()
	if e != api.Lost || e2 != api.Lost {
		t.Error(e, e2)
	}
}

func TestNil(t *testing.T) {
	var p *Past
	p.Clear()
	has(t, p, 0, 0)
	x, e := p.Back()
	y, e2 := p.Again()
	if !same(x, y) || !same(x, api.Patch{}) || e != api.Nil || e2 != api.Nil {
		t.Error(x, e, y, e2)
	}
}
