package dir

import (
	"bytes"
	"math"
	"slices"
	"testing"

	"hachure/api"
	"hachure/sample"
)

// P13.1: tiles, bytes, and sizes that can't be.
func TestTilesSize(t *testing.T) {
	for _, c := range []struct{ w, h, tiles int64 }{{1, 1, 1}, {16, 16, 1}, {17, 1, 2}, {1, 33, 3}, {17, 17, 4}, {1024, 1024, 4096}} {
		n, e := Tiles(c.w, c.h)
		size, e2 := Size(c.w, c.h)
		if n != c.tiles || size != 13+8*c.tiles || e != api.Fine || e2 != api.Fine {
			t.Error(c, n, size, e, e2)
		}
	}
	for _, c := range [][2]int64{{0, 1}, {1, 0}, {1025, 1}, {1, 1025}, {-1, -1}, {math.MaxInt64, math.MinInt64}} {
		n, e := Tiles(c[0], c[1])
		size, e2 := Size(c[0], c[1])
		if n != 0 || size != 0 || e != api.Size || e2 != api.Size {
			t.Error(c, n, size, e, e2)
		}
	}
}

// P13.2: the bytes, and each error in its order.
func TestPut(t *testing.T) {
	b, e := Put(17, 258, slices.Repeat([]int64{3}, 34))
	want := []byte{'H', 'A', 'C', 'H', 1, 16, 0, 1, 1, 34, 0, 0, 0, 29, 1, 0, 0, 3, 0, 0, 0, 32, 1, 0, 0, 3, 0, 0, 0}
	if e != api.Fine || len(b) != 13+8*34 || !bytes.HasPrefix(b, want) {
		t.Error(b, e)
	}
	if b, e := Put(1, 1, []int64{1 << 20}); e != api.Fine || !bytes.Equal(b[13:], []byte{21, 0, 0, 0, 0, 0, 16, 0}) {
		t.Error(b, e)
	}
	least, e := Put(1, 1, []int64{1})
	if _, _, l, e2 := Get(least); e != api.Fine || e2 != api.Fine || !slices.Equal(l, []api.Entry{{At: 21, Len: 1}}) {
		t.Error(l, e, e2)
	}
	for _, c := range []struct {
		w, h int64
		lens []int64
		e    api.Code
	}{
		{0, 1, nil, api.Size}, {1, 1025, nil, api.Size}, {1, 1, nil, api.Count}, {17, 1, []int64{0}, api.Count}, {1, 1, []int64{1, 1}, api.Count},
		{1, 1, []int64{0}, api.Value}, {17, 1, []int64{1, 1<<20 + 1}, api.Value}, {1, 1, []int64{math.MinInt64}, api.Value}, {1, 1, []int64{math.MaxInt64}, api.Value},
	} {
		if b, e := Put(c.w, c.h, c.lens); e != c.e || b != nil {
			t.Error(c, b, e)
		}
	}
	if _, e := Put(1024, 1024, slices.Repeat([]int64{1 << 20}, 4096)); e != api.Fine {
		t.Error(e)
	}
}

// P13.3: what is read, and each error in its order.
func TestGet(t *testing.T) {
	good, _ := Put(17, 1, []int64{5, 6})
	w, h, l, e := Get(append(bytes.Clone(good), 1, 2, 3))
	if w != 17 || h != 1 || e != api.Fine || !slices.Equal(l, []api.Entry{{At: 29, Len: 5}, {At: 34, Len: 6}}) {
		t.Error(w, h, l, e)
	}
	with := func(at int, to ...byte) []byte {
		b := bytes.Clone(good)
		copy(b[at:], to)
		return b
	}
	for i, c := range []struct {
		b []byte
		e api.Code
	}{
		{nil, api.Short}, {good[:12], api.Short}, {with(0, 'h')[:13], api.Form}, {with(4, 2), api.Form}, {with(3, 'h'), api.Form},
		{with(5, 0, 4)[:13], api.Size}, {with(7, 255, 255)[:13], api.Size}, {with(9, 3)[:13], api.Count}, {with(12, 1), api.Count}, {with(5, 255, 3), api.Count},
		{good[:13], api.Short}, {good[:28], api.Short}, {with(13, 30), api.Form}, {with(17, 0), api.Form}, {with(17, 6), api.Form}, {with(21, 33), api.Form}, {with(28, 1), api.Form},
		{with(25, 0), api.Form}, {with(25, 1, 0, 16), api.Form}, {with(25, 0, 0, 16), api.Fine},
	} {
		w, h, l, e := Get(c.b)
		if e != c.e || e != api.Fine && (w != 0 || h != 0 || l != nil) {
			t.Error(i, w, h, l, e)
		}
	}
}

// P13.4: what is put is got; what is got is put as it was.
func TestBack(t *testing.T) {
	d := sample.New(5)
	for range 300 {
		w, h := d.Between(1, 60), d.Between(1, 60)
		n, _ := Tiles(w, h)
		lens := d.Values(int(n), 1, 1<<20)
		b, e := Put(w, h, lens)
		gw, gh, l, e2 := Get(append(bytes.Clone(b), 7))
		if e != api.Fine || e2 != api.Fine || gw != w || gh != h || len(l) != len(lens) {
			t.Fatal(w, h, e, e2)
		}
		at, _ := Size(w, h)
		for i, x := range l {
			if x.At != at || x.Len != lens[i] {
				t.Fatal(i, x)
			}
			at += x.Len
		}
		b[d.Upto(int64(len(b)))] ^= byte(1 << d.Upto(8))
		if w, h, l, e := Get(b); e == api.Fine {
			var lens []int64
			for _, x := range l {
				lens = append(lens, x.Len)
			}
			if again, _ := Put(w, h, lens); !bytes.HasPrefix(b, again) {
				t.Fatal(b)
			}
		}
	}
}
