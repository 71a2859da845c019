// Package whole holds the tests of what all layers promise together.
package whole

import (
	"bytes"
	"reflect"
	"slices"
	"testing"

	"hachure/api"
	"hachure/disk"
	"hachure/file"
	"hachure/fill"
	"hachure/grid"
	"hachure/keep"
	"hachure/paint"
	"hachure/peaks"
	"hachure/pyr"
	"hachure/quad"
	"hachure/ray"
	"hachure/rect"
	"hachure/regions"
	"hachure/runs"
	"hachure/sample"
	"hachure/script"
	"hachure/sight"
	"hachure/skip"
	"hachure/store"
	"hachure/turn"
	"hachure/view"
)

var R, C = sample.Rect, sample.Cell

func land(w, h int64, l ...int64) *grid.Grid {
	g, _ := paint.From(w, h, l)
	return g
}

// The ten examples of the document.
func TestExamples(t *testing.T) {
	c := script.New()
	got := c.Run([]string{"create 3 1", "paste 0 0 2 0 0,5,0", "sight 0 0 0 2 0 9", "sight 0 0 0 2 0 10"})
	if !slices.Equal(got, []string{"ok", "ok", "ok no 1 0", "ok yes"}) {
		t.Error(1, got)
	}
	if b := runs.Put(nil, []int64{0, 0, 0, -1}); !bytes.Equal(b, []byte{0, 2, 1}) {
		t.Error(2, b)
	}
	if b, _ := file.Save(land(1, 1, 0), []int{api.Plain}); len(b) != 28 {
		t.Error(3, b)
	}
	if l := rect.Pieces(R(14, 3, 17, 3)); len(l) != 2 {
		t.Error(4, l)
	}
	g := land(2, 2, 1, 0, 0, 1)
	_, two, _ := regions.Of(g, 1)
	_, one, _ := regions.Of(g, 0)
	q, _ := quad.Of(g, 1)
	if s, _ := quad.Print(q); len(two) != 2 || len(one) != 1 || s != "2 2 +#..#" {
		t.Error(5, two, one, s)
	}
	if l, _ := ray.Row(C(0, 0), C(3, 1)); !slices.Equal(l, []api.Cell{C(0, 0), C(1, 0), C(2, 1), C(3, 1)}) {
		t.Error(6, l)
	}
	got = c.Run([]string{"freeze", "fill 0 0 2 0 8", "oldsum 0 0 2 0", "undo", "sum 0 0 2 0"})
	if !slices.Equal(got, []string{"ok", "ok", "ok 5", "ok", "ok 5"}) {
		t.Error(7, got)
	}
	for kept, sum := range map[int64]int64{0: 5, 1000: 14} {
		if n := sumBehindCrash(kept); n != sum {
			t.Error(8, kept, n)
		}
	}
	levels, _ := fill.Levels(land(3, 3, 3, 3, 3, 3, 1, 2, 3, 3, 3))
	if v, _ := levels.At(C(1, 1)); v != 2 {
		t.Error(9, v)
	}
	if l, _ := peaks.Of(land(5, 1, 1, 5, 2, 4, 0)); len(l) != 2 || l[1].Value != 4 || l[1].Rise != 2 {
		t.Error(10, l)
	}
}

// sumBehindCrash is that of a land of which a kept op was answered Down, behind a crash that keeps so many units.
func sumBehindCrash(kept int64) int64 {
	d, _ := disk.New(1000)
	k, _ := keep.Create(d)
	k.Do(api.Op{Kind: api.Create, N: 2, M: 1})
	k.Do(api.Op{Kind: api.Set, N: 5})
	d.Fuse(1)
	if k.Do(api.Op{Kind: api.Fill, R: R(0, 0, 1, 0), N: 7}).Code != api.Down {
		return -1
	}
	d.Crash(kept)
	k, _ = keep.Open(d)
	return k.Do(api.Op{Kind: api.Sum, R: R(0, 0, 1, 0)}).N
}

// T1, T6, T8: a keeper, opened again and again, answers as a store; so does a console.
func TestKeeperAsStore(t *testing.T) {
	p := pool{sample.New(97)}
	d, _ := disk.New(api.MaxDisk)
	k, _ := keep.Create(d)
	s := store.New()
	c := script.New()
	for n := range 3000 {
		o := p.op()
		if n%500 == 7 {
			o.Kind, o.N, o.M = api.Create, 6, 5
		}
		want := s.Do(o)
		if got := k.Do(o); !reflect.DeepEqual(got, want) {
			t.Fatalf("%+v: %+v, not %+v", o, got, want)
		}
		if line, e := script.Print(o); e == api.Fine && !slices.Equal(c.Do(line), script.Answer(o.Kind, want)) {
			t.Fatal(line)
		}
		if n%50 == 0 {
			d.Crash(0)
			k, _ = keep.Open(d)
		}
		done, back := s.Past()
		if kd, kb := k.Past(); kd != done || kb != back || !grid.Same(k.Grid(), s.Grid()) {
			t.Fatalf("%+v", o)
		}
	}
}

// T3: sight stays, with all heights shifted, and with columns and rows changed for one another.
func TestSightStays(t *testing.T) {
	d := sample.New(96)
	for range 300 {
		w, h := d.Between(1, 20), d.Between(1, 20)
		g := land(w, h, d.Values(int(w*h), 0, d.Between(1, 20))...)
		swapped, _ := turn.Swap(g)
		shifted := g.Copy()
		paint.Add(shifted, shifted.All(), d.Between(-1000, 1000))
		a, b, ha, hb := d.Cell(w, h), d.Cell(w, h), d.Upto(9), d.Upto(9)
		want, at, _ := sight.Clear(g, a, ha, b, hb)
		if ok, c, _ := sight.Clear(shifted, a, ha, b, hb); ok != want || c != at {
			t.Fatal("shifted", a, b)
		}
		if ok, c, _ := sight.Clear(swapped, C(a.Y, a.X), ha, C(b.Y, b.X), hb); ok != want || c != C(at.Y, at.X) {
			t.Fatal("swapped", a, b)
		}
		p, _ := pyr.Build(g)
		if ok, c, _ := skip.Clear(p, a, ha, b, hb); ok != want || c != at {
			t.Fatal("skipped", a, b)
		}
		l, _ := view.From(p, a, ha, hb, api.MaxReach)
		if slices.Contains(l, b) != want {
			t.Fatal("view", a, b)
		}
	}
}

// T5: what is saved is loaded as it was, and answers as it did.
func TestLoadedAnswers(t *testing.T) {
	p := pool{sample.New(95)}
	for range 60 {
		s, o := store.New(), store.New()
		s.Do(api.Op{Kind: api.Create, N: 20, M: 18})
		for range 20 {
			s.Do(api.Op{Kind: api.Fill, R: p.d.Rect(20, 18), N: p.number()})
		}
		b := s.Do(api.Op{Kind: api.Save, N: p.d.Upto(4)}).Bytes
		o.Do(api.Op{Kind: api.Load, Bytes: b})
		s.Do(api.Op{Kind: api.Load, Bytes: b})
		for range 40 {
			op := p.op()
			if x, y := s.Do(op), o.Do(op); !reflect.DeepEqual(x, y) {
				t.Fatalf("%+v: %+v, %+v", op, x, y)
			}
		}
	}
}

// T7: what is taken back never was, what is done again is as it was.
func TestBack(t *testing.T) {
	d := sample.New(94)
	s := store.New()
	s.Do(api.Op{Kind: api.Create, N: 9, M: 9})
	lands := []*grid.Grid{s.Grid()}
	for len(lands) <= api.MaxPast {
		s.Do(api.Op{Kind: api.Fill, R: d.Rect(9, 9), N: d.Between(-9, 9)})
		if g := s.Grid(); !grid.Same(g, lands[len(lands)-1]) {
			lands = append(lands, g)
		}
	}
	for _, kind := range []int{api.Undo, api.Redo, api.Undo} {
		for i := range lands {
			want := lands[i]
			if kind == api.Undo {
				want = lands[len(lands)-1-i]
			}
			if !grid.Same(s.Grid(), want) {
				t.Fatal(kind, i)
			}
			if r := s.Do(api.Op{Kind: kind}); (r.Code == api.Lost) != (i == len(lands)-1) {
				t.Fatal(kind, i, r)
			}
		}
	}
}
