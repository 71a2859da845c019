package wire

import (
	"bytes"
	"math"
	"math/rand"
	"testing"

	"hachure/api"
)

// P12.1: so many bytes, in new memory, and each error in its order.
func TestPut(t *testing.T) {
	for _, c := range []struct {
		n   int
		u   uint64
		out []byte
		e   api.Code
	}{
		{3, 258, []byte{7, 2, 1, 0}, api.Fine}, {1, 0, []byte{7, 0}, api.Fine}, {1, 255, []byte{7, 255}, api.Fine}, {8, math.MaxUint64, []byte{7, 255, 255, 255, 255, 255, 255, 255, 255}, api.Fine},
		{7, 1<<56 - 1, []byte{7, 255, 255, 255, 255, 255, 255, 255}, api.Fine},
		{0, 1 << 60, nil, api.Arg}, {9, 0, nil, api.Arg}, {-1, 0, nil, api.Arg}, {math.MinInt, 0, nil, api.Arg}, {math.MaxInt, 0, nil, api.Arg},
		{1, 256, nil, api.Value}, {7, 1 << 56, nil, api.Value}, {4, math.MaxUint64, nil, api.Value},
	} {
		if b, e := Put([]byte{7}, c.n, c.u); e != c.e || !bytes.Equal(b, c.out) {
			t.Error(c, b, e)
		}
	}
	old := make([]byte, 1, 9)
	if b, _ := Put(old, 1, 5); &b[0] == &old[0] || old[:2][1] != 0 {
		t.Error("shared")
	}
}

// P12.2: the number, the place behind, and each error in its order.
func TestGet(t *testing.T) {
	b := []byte{9, 2, 1, 0}
	for _, c := range []struct {
		at, n int
		u     uint64
		end   int
		e     api.Code
	}{
		{1, 3, 258, 4, api.Fine}, {0, 1, 9, 1, api.Fine}, {3, 1, 0, 4, api.Fine}, {4, 1, 0, 0, api.Short}, {1, 4, 0, 0, api.Short}, {0, 8, 0, 0, api.Short},
		{-1, 1, 0, 0, api.Arg}, {5, 1, 0, 0, api.Arg}, {0, 0, 0, 0, api.Arg}, {0, 9, 0, 0, api.Arg}, {4, 0, 0, 0, api.Arg}, {math.MaxInt, 8, 0, 0, api.Arg}, {math.MinInt, math.MinInt, 0, 0, api.Arg},
	} {
		if u, end, e := Get(b, c.at, c.n); u != c.u || end != c.end || e != c.e {
			t.Error(c, u, end, e)
		}
	}
}

// P12.3: what is put is got.
func TestBack(t *testing.T) {
	r := rand.New(rand.NewSource(9))
	for range 2000 {
		n := 1 + r.Intn(8)
		u := r.Uint64() >> (64 - 8*n)
		b, e := Put([]byte{1, 2}, n, u)
		if got, end, e2 := Get(append(b, 3), 2, n); e != api.Fine || e2 != api.Fine || got != u || end != 2+n {
			t.Fatal(n, u, b, got, end)
		}
	}
}
