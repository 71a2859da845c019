package store

import (
	"bytes"
	"math"
	"reflect"
	"slices"
	"testing"

	"hachure/api"
	"hachure/chart"
	"hachure/down"
	"hachure/file"
	"hachure/grid"
	"hachure/paint"
	"hachure/rect"
	"hachure/regions"
	"hachure/route"
	"hachure/sample"
	"hachure/sight"
	"hachure/sink"
)

var R, C = sample.Rect, sample.Cell

var legend = []api.Band{{From: -3, Sign: '.'}, {From: 0, Sign: 'o'}, {From: 3, Sign: '#'}}

// made is a store of a land with these values.
func made(t *testing.T, w, h int64, l ...int64) *Store {
	t.Helper()
	s := New()
	if s.Do(api.Op{Kind: api.Create, N: w, M: h}).Code != api.Fine || s.Do(api.Op{Kind: api.Paste, R: R(0, 0, w-1, h-1), Values: l}).Code != api.Fine {
		t.Fatal("not made")
	}
	return s
}

// model is a store as its words tell it: a grid, a grid as it was, and all grids that were.
type model struct {
	g, old     *grid.Grid
	done, back []*grid.Grid
}

func (m *model) change(o api.Op) api.Code {
	next := m.g.Copy()
	var e api.Code
	switch o.Kind {
	case api.Set:
		e = next.Set(o.A, o.N)
	case api.Fill:
		e = next.Fill(o.R, o.N)
	case api.Paste:
		e = paint.Paste(next, o.R, o.Values)
	case api.Add:
		e = paint.Add(next, o.R, o.N)
	}
	if e == api.Fine && !grid.Same(next, m.g) {
		m.done = append(m.done, m.g)
		if len(m.done) > api.MaxPast {
			m.done = m.done[1:]
		}
		m.g, m.back = next, nil
	}
	return e
}

func (m *model) step(from, to *[]*grid.Grid) api.Code {
	n := len(*from)
	if n == 0 {
		return api.Lost
	}
	*to = append(*to, m.g)
	m.g, *from = (*from)[n-1], (*from)[:n-1]
	return api.Fine
}

func (m *model) do(o api.Op) api.Reply {
	if m.g == nil && o.Kind != api.Create && o.Kind != api.Load {
		return api.Reply{Code: api.None}
	}
	switch o.Kind {
	case api.Create, api.Load:
		g, e := grid.New(o.N, o.M, 0)
		if o.Kind == api.Load {
			g, _, e = file.Load(o.Bytes)
		}
		if e == api.Fine {
			*m = model{g: g}
		}
		return api.Reply{Code: e}
	case api.Set, api.Fill, api.Paste, api.Add:
		return api.Reply{Code: m.change(o)}
	case api.Freeze:
		m.old = m.g.Copy()
		return api.Reply{}
	case api.Undo:
		return api.Reply{Code: m.step(&m.done, &m.back)}
	case api.Redo:
		return api.Reply{Code: m.step(&m.back, &m.done)}
	case api.Thaw, api.OldSum, api.OldMin, api.OldMax:
		return m.recall(o)
	}
	if o.Kind <= api.Rank {
		return inRect(m.g, o)
	}
	return m.ask(o)
}

func (m *model) recall(o api.Op) api.Reply {
	if m.old == nil {
		return api.Reply{Code: api.Lost}
	}
	if o.Kind == api.Thaw {
		m.old = nil
		return api.Reply{}
	}
	o.Kind = map[int]int{api.OldSum: api.Sum, api.OldMin: api.Min, api.OldMax: api.Max}[o.Kind]
	r := inRect(m.old, o)
	r.At = api.Cell{}
	return r
}

// inRect answers by a rectangle's cells, one by one.
func inRect(g *grid.Grid, o api.Op) api.Reply {
	if o.Kind == api.Get {
		v, e := g.At(o.A)
		return api.Reply{Code: e, N: v}
	}
	l, e := g.Values(o.R)
	if e != api.Fine {
		return api.Reply{Code: e}
	}
	r := api.Reply{}
	switch o.Kind {
	case api.Sum:
		for _, v := range l {
			r.N += v
		}
	case api.Min, api.Max:
		r.N = slices.Min(l)
		if o.Kind == api.Max {
			r.N = slices.Max(l)
		}
		r.At, _ = rect.Nth(o.R, int64(slices.Index(l, r.N)))
	case api.Over:
		for _, v := range l {
			if v >= o.N {
				r.N++
			}
		}
	case api.Rank:
		if o.N < 0 || o.N >= int64(len(l)) {
			return api.Reply{Code: api.Arg}
		}
		slices.Sort(l)
		r.N = l[o.N]
	}
	return r
}

func (m *model) ask(o api.Op) api.Reply {
	var r api.Reply
	switch o.Kind {
	case api.Sight:
		r.Yes, r.At, r.Code = sight.Clear(m.g, o.A, o.N, o.B, o.M)
	case api.View:
		return m.view(o)
	case api.Regions:
		r.Values, r.Parts, r.Code = regions.Of(m.g, o.N)
		r.N = int64(len(r.Parts))
	case api.Sink:
		r.Cells, r.Code = sink.Way(m.g, o.A)
		if r.Code == api.Fine {
			r.At = r.Cells[len(r.Cells)-1]
		}
	case api.Route:
		r.N, r.Cells, r.Code = route.Find(m.g, o.A, o.B)
	case api.Level:
		g, e := down.Level(m.g, int(o.N), int(o.M))
		r.Code = e
		r.Values, _ = g.Values(g.All())
		r.At.X, r.At.Y = g.Size()
	case api.Save:
		kinds, _ := file.Best(m.g)
		if o.N != 3 {
			kinds = slices.Repeat([]int{int(o.N)}, len(kinds))
		}
		r.Bytes, r.Code = file.Save(m.g, kinds)
	case api.Draw:
		r.Lines, r.Code = chart.Draw(m.g, o.R, o.Bands)
	}
	return r
}

func (m *model) view(o api.Op) api.Reply {
	w, h := m.g.Size()
	around, e := rect.Around(o.A, 0, w, h)
	if e == api.Fine && (o.N < 0 || o.M < 0 || o.N > api.MaxHeight || o.M > api.MaxHeight) {
		e = api.Height
	}
	if e == api.Fine {
		around, e = rect.Around(o.A, o.B.X, w, h)
	}
	r := api.Reply{Code: e}
	for i := range rect.Area(around) {
		c, _ := rect.Nth(around, i)
		if ok, _, _ := sight.Clear(m.g, o.A, o.N, c, o.M); e == api.Fine && ok {
			r.Cells = append(r.Cells, c)
		}
	}
	r.N = int64(len(r.Cells))
	return r
}

// tidy makes lists without items nil, so that replies may be held against each other.
func tidy(r api.Reply) api.Reply {
	if len(r.Cells) == 0 {
		r.Cells = nil
	}
	if len(r.Values) == 0 {
		r.Values = nil
	}
	if len(r.Parts) == 0 {
		r.Parts = nil
	}
	if len(r.Bytes) == 0 {
		r.Bytes = nil
	}
	if len(r.Lines) == 0 {
		r.Lines = nil
	}
	return r
}

// throw is any op, most of them such as may be.
func throw(d *sample.Dice, saved []byte) api.Op {
	w, h := d.Between(6, 7), d.Between(4, 5)
	o := api.Op{Kind: int(d.Between(2, api.MostKind)), R: d.Rect(w, h), A: d.Cell(w, h), B: d.Cell(w, h), N: d.Between(-2, 6), M: d.Between(-1, 4), Bands: legend}
	if d.Upto(30) == 0 {
		o.R.X0, o.R.X1 = o.R.X1, o.R.X0
	}
	if o.Kind == api.Load && d.Upto(4) != 0 {
		o.Kind = api.Set
	}
	o.Bytes = saved
	if d.Upto(2) == 0 {
		o.Bytes = saved[1:]
	}
	o.Values = d.Values(int(max(0, rect.Area(o.R)-d.Upto(20)/19)), -4, 4)
	if d.Upto(200) == 0 {
		o.Kind, o.N, o.M = api.Create, d.Between(0, 7), d.Between(1, 5)
	}
	return o
}

// P36.1, P36.2, P36.3: a store answers all ops as its words tell.
func TestAgainstModel(t *testing.T) {
	d := sample.New(34)
	g, _ := paint.From(6, 4, d.Values(24, -4, 4))
	saved, _ := file.Save(g, []int{1})
	for range 60 {
		s, m := New(), &model{}
		for k := range 120 {
			o := throw(d, saved)
			if k == 1 {
				o = api.Op{Kind: api.Create, N: 6, M: 4}
			}
			want, got := tidy(m.do(o)), tidy(s.Do(o))
			if !reflect.DeepEqual(got, want) {
				t.Fatalf("%+v: %+v, not %+v", o, got, want)
			}
			done, back := s.Past()
			if !grid.Same(s.Grid(), m.g) || done != len(m.done) || back != len(m.back) {
				t.Fatalf("%+v: %d, %d, not %d, %d", o, done, back, len(m.done), len(m.back))
			}
		}
	}
}

// P36.1: the first check that fails, in the published order.
func TestCodes(t *testing.T) {
	s := made(t, 3, 2, 1, 2, 3, 4, 5, 6)
	far := api.Op{R: R(3, 0, 2, 0), A: C(3, 0), B: C(0, 9), N: -1 << 40, M: 1 << 40, Values: []int64{1 << 40}, Bytes: []byte{1}}
	turned, right := far, far
	turned.R, turned.A = R(1, 0, 0, 0), C(0, 0)
	right.R, right.A, right.B = R(0, 0, 1, 0), C(0, 0), C(-1, 0)
	seen := right
	seen.N, seen.M = 0, 0
	for _, c := range []struct {
		o     api.Op
		kinds []int
		e     api.Code
	}{
		{far, []int{0, -1, 28, math.MinInt, math.MaxInt}, api.Arg},
		{far, []int{api.Create}, api.Size},
		{far, []int{api.Set, api.Fill, api.Paste, api.Add, api.Get, api.Sum, api.Min, api.Max, api.Over, api.Rank, api.Sight, api.View, api.Sink, api.Route, api.Draw}, api.Place},
		{turned, []int{api.Fill, api.Paste, api.Add, api.Sum, api.Min, api.Max, api.Over, api.Rank, api.Draw}, api.Turned},
		{turned, []int{api.Sight, api.Route}, api.Place},
		{right, []int{api.Paste}, api.Count},
		{right, []int{api.Set, api.Fill, api.Add}, api.Value},
		{right, []int{api.View}, api.Height},
		{seen, []int{api.View}, api.Reach},
		{right, []int{api.Load}, api.Broken},
		{right, []int{api.Rank, api.Level, api.Save}, api.Arg},
		{right, []int{api.Draw}, api.Form},
		{far, []int{api.Thaw, api.OldSum, api.OldMin, api.OldMax, api.Redo}, api.Lost},
	} {
		for _, kind := range c.kinds {
			o := c.o
			o.Kind = kind
			if r := s.Do(o); !reflect.DeepEqual(r, api.Reply{Code: c.e}) {
				t.Errorf("%+v: %+v", o, r)
			}
		}
	}
	s.Do(api.Op{Kind: api.Freeze})
	for _, kind := range []int{api.OldSum, api.OldMin, api.OldMax} {
		if s.Do(api.Op{Kind: kind, R: far.R}).Code != api.Place || s.Do(api.Op{Kind: kind, R: turned.R}).Code != api.Turned {
			t.Error(kind)
		}
	}
	if r := s.Do(api.Op{Kind: api.Sight, N: -1, B: C(1, 0)}); r.Code != api.Height {
		t.Error(r)
	}
	if l, _ := s.Grid().Values(R(0, 0, 2, 1)); !slices.Equal(l, []int64{1, 2, 3, 4, 5, 6}) {
		t.Error("changed", l)
	}
}

// P36.1: without a grid, and without a store.
func TestNone(t *testing.T) {
	var none *Store
	for kind := -1; kind <= api.MostKind+1; kind++ {
		for _, s := range []*Store{New(), {}} {
			want := api.None
			switch {
			case kind < 1 || kind > api.MostKind:
				want = api.Arg
			case kind == api.Create:
				want = api.Size
			case kind == api.Load:
				want = api.Broken
			}
			if r := s.Do(api.Op{Kind: kind}); r.Code != want {
				t.Error(kind, r)
			}
			if done, back := s.Past(); s.Grid() != nil || done != 0 || back != 0 {
				t.Error(kind)
			}
		}
		if r := none.Do(api.Op{Kind: kind}); r.Code != api.Nil {
			t.Error(kind, r)
		}
	}
	if done, back := none.Past(); none.Grid() != nil || done != 0 || back != 0 {
		t.Error("nil")
	}
	s := &Store{}
	if r := s.Do(api.Op{Kind: api.Create, N: 2, M: 1}); r.Code != api.Fine || s.Do(api.Op{Kind: api.Undo}).Code != api.Lost {
		t.Error(r)
	}
}

// P36.2, P36.3: the example; what is told is a copy; a change that changes nothing was none.
func TestExample(t *testing.T) {
	s := made(t, 2, 1, 5, 0)
	all := R(0, 0, 1, 0)
	s.Do(api.Op{Kind: api.Freeze})
	s.Do(api.Op{Kind: api.Fill, R: all, N: 1})
	for range 2 {
		if r := s.Do(api.Op{Kind: api.OldSum, R: all}); r.N != 5 {
			t.Error(r)
		}
		if r := s.Do(api.Op{Kind: api.Undo}); r.Code != api.Fine {
			t.Error(r)
		}
		if r := s.Do(api.Op{Kind: api.Sum, R: all}); r.N != 5 {
			t.Error(r)
		}
		s.Do(api.Op{Kind: api.Add, R: all})
		if r := s.Do(api.Op{Kind: api.Redo}); r.Code != api.Fine {
			t.Error(r)
		}
		if r := s.Do(api.Op{Kind: api.Sum, R: all}); r.N != 2 {
			t.Error(r)
		}
	}
	s.Grid().Fill(all, 9)
	if r := s.Do(api.Op{Kind: api.Get}); r.N != 1 {
		t.Error(r)
	}
	l := []int64{3, 4}
	s.Do(api.Op{Kind: api.Paste, R: all, Values: l})
	l[0] = 99
	if r := s.Do(api.Op{Kind: api.Sum, R: all}); r.N != 7 {
		t.Error(r)
	}
}

// P36.1: what is saved is loaded, without a snapshot and a past.
func TestSaveLoad(t *testing.T) {
	s := made(t, 20, 1, sample.New(35).Values(20, -9, 9)...)
	s.Do(api.Op{Kind: api.Freeze})
	was := s.Grid()
	for n := range int64(4) {
		b := s.Do(api.Op{Kind: api.Save, N: n}).Bytes
		o := New()
		if r := o.Do(api.Op{Kind: api.Load, Bytes: b}); r.Code != api.Fine || !grid.Same(o.Grid(), was) {
			t.Error(n, r)
		}
		if again := o.Do(api.Op{Kind: api.Save, N: n}).Bytes; !bytes.Equal(again, b) {
			t.Error(n)
		}
		b[0] ^= 1
		if r := s.Do(api.Op{Kind: api.Load, Bytes: b}); r.Code != api.Broken {
			t.Error(n, r)
		}
	}
	if done, _ := s.Past(); done != 1 || !grid.Same(s.Grid(), was) {
		t.Error(done)
	}
	s.Do(api.Op{Kind: api.Load, Bytes: s.Do(api.Op{Kind: api.Save, N: 3}).Bytes})
	if done, back := s.Past(); done != 0 || back != 0 || s.Do(api.Op{Kind: api.Thaw}).Code != api.Lost {
		t.Error(done, back)
	}
}
