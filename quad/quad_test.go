package quad

import (
	"math"
	"slices"
	"strings"
	"testing"

	"hachure/api"
	"hachure/grid"
	"hachure/paint"
	"hachure/rect"
	"hachure/sample"
)

var R, C = sample.Rect, sample.Cell

// area is a square of a tree: its first cell, and its side.
type area struct{ x, y, side int64 }

// plain is a set's text by its words: a square is a leaf, if all of its cells are in the set, or none is.
func plain(set map[api.Cell]bool, w, h int64, s area) string {
	n := int64(0)
	for y := s.y; y < s.y+s.side; y++ {
		for x := s.x; x < s.x+s.side; x++ {
			if x < w && y < h && set[C(x, y)] {
				n++
			}
		}
	}
	switch n {
	case 0:
		return "."
	case s.side * s.side:
		return "#"
	}
	text := "+"
	half := s.side / 2
	for _, q := range []area{{s.x, s.y, half}, {s.x + half, s.y, half}, {s.x, s.y + half, half}, {s.x + half, s.y + half, half}} {
		text += plain(set, w, h, q)
	}
	return text
}

func textOf(set map[api.Cell]bool, w, h int64) string {
	side := int64(1)
	for side < max(w, h) {
		side *= 2
	}
	d := func(n int64) string { return strings.TrimLeft(string([]rune{rune('0' + n/10), rune('0' + n%10)}), "0") }
	return d(w) + " " + d(h) + " " + plain(set, w, h, area{0, 0, side})
}

// holds holds a quad against a set.
func holds(t *testing.T, q *Quad, e api.Code, set map[api.Cell]bool, w, h int64) {
	t.Helper()
	if qw, qh := q.Size(); qw != w || qh != h || e != api.Fine || q.Count() != int64(len(set)) {
		t.Fatal(qw, qh, e, q.Count(), len(set))
	}
	for y := int64(-1); y <= h; y++ {
		for x := int64(-1); x <= w; x++ {
			if q.Has(C(x, y)) != set[C(x, y)] {
				t.Fatal(x, y)
			}
		}
	}
	cells := int64(0)
	for _, r := range q.Leaves() {
		cells += rect.Area(r)
		for i := range rect.Area(r) {
			if c, _ := rect.Nth(r, i); !set[c] {
				t.Fatal(r, c)
			}
		}
	}
	s, e := Print(q)
	if want := textOf(set, w, h); s != want || e != api.Fine || cells != int64(len(set)) || strings.Count(s, "#") != len(q.Leaves()) {
		t.Fatalf("%q, not %q, %d", s, want, e)
	}
	back, e := Read(s)
	if again, _ := Print(back); again != s || e != api.Fine {
		t.Fatalf("%q, not %q, %d", again, s, e)
	}
}

func throw(d *sample.Dice, w, h int64) (*Quad, map[api.Cell]bool) {
	g, _ := grid.New(w, h, d.Between(0, 1))
	for range d.Upto(5) {
		g.Fill(d.Rect(w, h), d.Between(0, 1))
	}
	set := map[api.Cell]bool{}
	for i := range w * h {
		if v, _ := g.At(C(i%w, i/w)); v >= 1 {
			set[C(i%w, i/w)] = true
		}
	}
	q, _ := Of(g, 1)
	return q, set
}

// P50.1, P50.2, P50.3, P50.4: against sets of cells.
func TestAgainstSets(t *testing.T) {
	d := sample.New(51)
	for range 300 {
		w, h := d.Between(1, 20), d.Between(1, 20)
		a, x := throw(d, w, h)
		b, y := throw(d, w, h)
		holds(t, a, api.Fine, x, w, h)
		and, or, less, not := map[api.Cell]bool{}, map[api.Cell]bool{}, map[api.Cell]bool{}, map[api.Cell]bool{}
		for i := range w * h {
			c := C(i%w, i/w)
			for m, has := range map[*map[api.Cell]bool]bool{&and: x[c] && y[c], &or: x[c] || y[c], &less: x[c] && !y[c], &not: !x[c]} {
				if has {
					(*m)[c] = true
				}
			}
		}
		q, e := And(a, b)
		holds(t, q, e, and, w, h)
		q, e = Or(a, b)
		holds(t, q, e, or, w, h)
		q, e = Less(a, b)
		holds(t, q, e, less, w, h)
		q, e = Not(a)
		holds(t, q, e, not, w, h)
		q, e = Not(q)
		holds(t, q, e, x, w, h)
		holds(t, a, api.Fine, x, w, h)
	}
}

// P50.1: the example, the order of leaves, numbers at their ends.
func TestOf(t *testing.T) {
	g, _ := paint.From(2, 2, []int64{1, 0, 1, 1})
	q, e := Of(g, 1)
	if s, _ := Print(q); s != "2 2 +#.##" || e != api.Fine {
		t.Error(s, e)
	}
	if l := q.Leaves(); !slices.Equal(l, []api.Rect{R(0, 0, 0, 0), R(0, 1, 0, 1), R(1, 1, 1, 1)}) {
		t.Error(l)
	}
	all, _ := Of(g, math.MinInt64)
	none, _ := Of(g, math.MaxInt64)
	if all.Count() != 4 || none.Count() != 0 || len(none.Leaves()) != 0 || all.Has(C(math.MinInt64, 0)) || all.Has(C(0, math.MaxInt64)) {
		t.Error(all.Count(), none.Count())
	}
	big, _ := grid.New(1024, 1023, 0)
	q, _ = Of(big, 0)
	if q.Count() != 1024*1023 || len(q.Leaves()) == 1 {
		t.Error(q.Count())
	}
	not, _ := Not(q)
	if s, _ := Print(not); s != "1024 1023 ." {
		t.Error(s)
	}
	odds, _ := Of(g, 1)
	g.Fill(g.All(), 0)
	if odds.Count() != 3 {
		t.Error("goes with the grid")
	}
}

// P50.3: each error in its order.
func TestRead(t *testing.T) {
	for _, c := range []struct {
		s string
		e api.Code
	}{
		{"", api.Word}, {"2", api.Word}, {"2 2", api.Word}, {" 2 2 .", api.Word}, {"2  2 .", api.Word}, {"02 2 .", api.Word}, {"x 2 .", api.Word}, {"9223372036854775808 0 .", api.Word}, {"2 9223372036854775808 .", api.Word},
		{"0 x .", api.Word}, {"0 2.", api.Word}, {"0 2 x", api.Size}, {"2 0 ", api.Size}, {"1025 1 .", api.Size}, {"1 -1 .", api.Size}, {"9223372036854775807 -9223372036854775808 ", api.Size},
		{"2 2 ", api.Word}, {"2 2 +", api.Word}, {"2 2 +...", api.Word}, {"2 2 x", api.Word}, {"2 2 +..x.", api.Word}, {"2 2 ..", api.Word}, {"2 2 . ", api.Word}, {"1 1 +....", api.Word}, {"2 2 ++....###", api.Word},
		{"2 2 +....", api.Form}, {"2 2 +####", api.Form}, {"2 2 +#####", api.Word}, {"3 2 #", api.Form}, {"2 3 +#...", api.Fine}, {"3 4 +.#..", api.Form}, {"4 3 +..#.", api.Form}, {"3 4 +.#+#....", api.Form}, {"4 3 +..#+#...", api.Form}, {"3 4 +.+#.#...", api.Fine}, {"3 4 +.+.#....", api.Form}, {"3 3 +#.#.", api.Form}, {"3 3 ++#...##.", api.Form}, {"3 3 ++####...", api.Form}, {"4 4 ++####...", api.Form},
		{"3 3 +##..x", api.Word}, {"2 2 +....#", api.Word}, {"1 1 #", api.Fine}, {"1 1 .", api.Fine}, {"2 2 #", api.Fine}, {"2 1 +##..", api.Fine}, {"2 2 \xff", api.Word}, {"2 2 é", api.Word}, {"2 2 .\x00", api.Word},
		{"1024 1024 " + strings.Repeat("+", 2000), api.Word},
	} {
		q, e := Read(c.s)
		if e != c.e || (q == nil) != (e != api.Fine) {
			t.Errorf("%.30q: %d, not %d", c.s, e, c.e)
		}
		if s, _ := Print(q); q != nil && s != c.s {
			t.Errorf("%q: %q", c.s, s)
		}
	}
	d := sample.New(52)
	for range 20000 {
		b := []byte("3 2 ")
		for range d.Upto(12) {
			b = append(b, "#.+"[d.Upto(3)])
		}
		if q, e := Read(string(b)); e == api.Fine {
			if s, _ := Print(q); s != string(b) {
				t.Fatalf("%q: %q", b, s)
			}
		}
	}
}

// P50.2: each error in its order.
func TestErrors(t *testing.T) {
	g, _ := grid.New(3, 2, 0)
	turned, _ := grid.New(2, 3, 0)
	a, _ := Of(g, 0)
	b, _ := Of(turned, 0)
	square, _ := grid.New(3, 3, 0)
	higher, _ := Of(square, 0)
	for _, f := range []func(a, b *Quad) (*Quad, api.Code){And, Or, Less} {
		for _, c := range []struct {
			a, b *Quad
			e    api.Code
		}{{nil, b, api.Nil}, {a, nil, api.Nil}, {nil, nil, api.Nil}, {&Quad{}, a, api.Nil}, {a, b, api.Size}, {a, higher, api.Size}, {b, higher, api.Size}} {
			if q, e := f(c.a, c.b); q != nil || e != c.e {
				t.Error(e, c.e)
			}
		}
	}
	for _, q := range []*Quad{nil, {}} {
		w, h := q.Size()
		n, e := Not(q)
		s, e2 := Print(q)
		if w != 0 || h != 0 || q.Has(C(0, 0)) || q.Count() != 0 || len(q.Leaves()) != 0 || n != nil || s != "" || e != api.Nil || e2 != api.Nil {
			t.Error("nil")
		}
	}
	if q, e := Of(nil, 0); q != nil || e != api.Nil {
		t.Error(e)
	}
}
