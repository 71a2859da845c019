package tile

import (
	"bytes"
	"math"
	"math/rand"
	"slices"
	"testing"

	"hachure/api"
)

// P6.1: both from 1 to 16.
func TestRight(t *testing.T) {
	for _, c := range []struct {
		w, h  int
		right bool
	}{{1, 1, true}, {16, 16, true}, {0, 1, false}, {1, 0, false}, {17, 1, false}, {1, 17, false}, {-1, -1, false}, {math.MinInt, math.MaxInt, false}} {
		if Right(c.w, c.h) != c.right {
			t.Error(c)
		}
	}
}

// P6.2: a tile's bytes, and each error in its order.
func TestPut(t *testing.T) {
	if b, e := Put(api.Left, slices.Repeat([]int64{5}, 256), 16, 16); e != api.Fine || !bytes.Equal(b, []byte{1, 10, 0, 254, 1}) {
		t.Error(b, e)
	}
	if b, e := Put(api.Plane, []int64{5, 7, 6, 9}, 2, 2); e != api.Fine || !bytes.Equal(b, []byte{2, 10, 4, 2, 4}) {
		t.Error(b, e)
	}
	for _, c := range []struct {
		kind  int
		cells []int64
		w, h  int
		e     api.Code
	}{
		{3, nil, 0, 1, api.Size}, {3, nil, 1, 17, api.Size}, {3, nil, 1, 1, api.Arg}, {-1, nil, 1, 1, api.Arg}, {256, []int64{1}, 1, 1, api.Arg},
		{0, []int64{1 << 40}, 2, 1, api.Count}, {0, []int64{1 << 40, 0, 0}, 2, 1, api.Count}, {0, []int64{0, api.MaxValue + 1}, 2, 1, api.Value},
		{0, []int64{math.MinInt64, 0}, 2, 1, api.Value}, {2, nil, 1, 1, api.Count},
	} {
		if b, e := Put(c.kind, c.cells, c.w, c.h); e != c.e || b != nil {
			t.Error(c, b, e)
		}
	}
}

// P6.3: what the bytes tell, and each error in its order.
func TestGet(t *testing.T) {
	cells, kind, e := Get([]byte{2, 10, 4, 2, 4}, 2, 2)
	if e != api.Fine || kind != api.Plane || !slices.Equal(cells, []int64{5, 7, 6, 9}) {
		t.Error(cells, kind, e)
	}
	for i, c := range []struct {
		b    []byte
		w, h int
		e    api.Code
	}{
		{nil, 0, 1, api.Size}, {nil, 1, 17, api.Size}, {nil, 1, 1, api.Short}, {[]byte{3}, 1, 1, api.Form}, {[]byte{255, 0, 0}, 1, 1, api.Form},
		{[]byte{0}, 1, 1, api.Short}, {[]byte{0, 0}, 1, 1, api.Short}, {[]byte{0, 0, 1}, 1, 1, api.Form}, {[]byte{0, 0, 0, 0}, 1, 1, api.Form},
		{[]byte{0, 0x80, 0x80, 0x80, 0x80, 0x10}, 1, 1, api.Value}, {[]byte{0, 0x80, 0x80, 0x80, 0x80, 0x10, 0}, 1, 1, api.Form},
		{[]byte{0, 0, 0, 0, 0}, 2, 1, api.Form},
	} {
		if cells, kind, e := Get(c.b, c.w, c.h); e != c.e || cells != nil || kind != 0 {
			t.Error(i, cells, kind, e)
		}
	}
	if cells, _, e := Get([]byte{0, 0xff, 0xff, 0xff, 0xff, 0x0f}, 1, 1); e != api.Fine || cells[0] != api.MinValue {
		t.Error(cells, e)
	}
}

// P6.4: the fewest bytes, the least number of several.
func TestBest(t *testing.T) {
	for _, c := range []struct {
		cells []int64
		w, h  int
		kind  int
		e     api.Code
	}{
		{[]int64{0, 0}, 2, 1, api.Plain, api.Fine}, {[]int64{900, 900, 900, 900}, 2, 2, api.Left, api.Fine},
		{[]int64{0, 1000, 2000, 0, 1000, 2000, 0, 1000, 2000}, 3, 3, api.Plane, api.Fine},
		{[]int64{1 << 40}, 0, 1, 0, api.Size}, {[]int64{1 << 40}, 2, 1, 0, api.Count}, {[]int64{1 << 40}, 1, 1, 0, api.Value},
	} {
		if kind, e := Best(c.cells, c.w, c.h); kind != c.kind || e != c.e {
			t.Error(c, kind, e)
		}
	}
}

// P6.5: what is put is got, what is got is put as it was; the best predictor is no longer than any.
func TestBack(t *testing.T) {
	r := rand.New(rand.NewSource(7))
	for range 600 {
		w, h := 1+r.Intn(16), 1+r.Intn(16)
		cells := make([]int64, w*h)
		shift := r.Intn(33)
		for i := range cells {
			cells[i] = int64(int32(r.Uint32())) >> shift
		}
		best, e := Best(cells, w, h)
		least, _ := Put(best, cells, w, h)
		for kind := range 3 {
			b, e := Put(kind, cells, w, h)
			got, k, e2 := Get(b, w, h)
			if e != api.Fine || e2 != api.Fine || k != kind || !slices.Equal(got, cells) {
				t.Fatal(kind, cells, e, e2)
			}
			if len(b) < len(least) || len(b) == len(least) && kind < best {
				t.Fatal("best", best, kind)
			}
			if _, _, e := Get(append(b, 0), w, h); e == api.Fine {
				t.Fatal("behind")
			}
		}
		noise := []byte{byte(r.Intn(3)), byte(r.Intn(4)), byte(r.Intn(4)), byte(r.Intn(4)), byte(r.Intn(4))}
		if got, k, e := Get(noise, 2, 2); e == api.Fine {
			if b, e := Put(k, got, 2, 2); e != api.Fine || !bytes.Equal(b, noise) {
				t.Fatal(noise, got, k)
			}
		}
		if e != api.Fine {
			t.Fatal(e)
		}
	}
}
