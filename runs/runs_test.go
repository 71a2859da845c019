package runs

import (
	"bytes"
	"math"
	"math/rand"
	"slices"
	"testing"

	"hachure/api"
	"hachure/leb"
)

// P5.1: the bytes, in new memory, and how many they are.
func TestPutLen(t *testing.T) {
	for _, c := range []struct {
		rests []int64
		b     []byte
	}{
		{nil, nil},
		{[]int64{0, 0, 0, -1}, []byte{0, 2, 1}},
		{[]int64{0}, []byte{0, 0}},
		{[]int64{1, 1}, []byte{2, 2}},
		{[]int64{0, 5, 0, 0}, []byte{0, 0, 10, 0, 1}},
		{make([]int64, 129), []byte{0, 0x80, 1}},
		{make([]int64, 128), []byte{0, 0x7f}},
		{[]int64{math.MinInt64}, leb.Put(nil, math.MaxUint64)},
	} {
		if b := Put(nil, c.rests); !bytes.Equal(b, c.b) || Len(c.rests) != len(c.b) {
			t.Error(c.rests, b, Len(c.rests))
		}
	}
	head := make([]byte, 1, 30)
	b := Put(head, []int64{3})
	b[0] = 9
	if !bytes.Equal(b, []byte{9, 6}) || head[0] != 0 || head[:2][1] != 0 {
		t.Error(b, head[:2])
	}
}

// P5.2: what stands there, and each error in its order.
func TestGet(t *testing.T) {
	for i, c := range []struct {
		b     []byte
		at, n int
		rests []int64
		end   int
		e     api.Code
	}{
		{[]byte{9, 0, 2, 1, 7}, 1, 4, []int64{0, 0, 0, -1}, 4, api.Fine},
		{[]byte{9}, 1, 0, nil, 1, api.Fine},
		{[]byte{2, 2}, 0, 1, []int64{1}, 1, api.Fine},
		{nil, 0, 0, nil, 0, api.Fine},
		{nil, 0, 1, nil, 0, api.Short},
		{[]byte{0}, 0, 1, nil, 0, api.Short},
		{[]byte{0x80, 0}, 0, 1, nil, 0, api.Form},
		{[]byte{0, 0x80, 0}, 0, 1, nil, 0, api.Form},
		{[]byte{0, 0, 0}, 0, 2, nil, 0, api.Form},
		{[]byte{0, 0, 0, 0}, 0, 2, nil, 0, api.Form},
		{[]byte{0, 2}, 0, 2, nil, 0, api.Form},
		{[]byte{2, 0, 1}, 0, 2, nil, 0, api.Form},
		{[]byte{0, 1}, 0, 2, []int64{0, 0}, 2, api.Fine},
		{leb.Put([]byte{0}, math.MaxUint64), 0, 2, nil, 0, api.Form},
		{[]byte{0, 0, 2, 0, 0}, 0, 3, []int64{0, 1, 0}, 5, api.Fine},
		{[]byte{1}, -1, 0, nil, 0, api.Arg},
		{[]byte{1}, 2, 0, nil, 0, api.Arg},
		{[]byte{1}, 0, -1, nil, 0, api.Arg},
		{[]byte{1}, 0, 1<<20 + 1, nil, 0, api.Arg},
		{[]byte{1}, 0, 1 << 20, nil, 0, api.Short},
		{[]byte{1}, math.MaxInt, math.MaxInt, nil, 0, api.Arg},
	} {
		rests, end, e := Get(c.b, c.at, c.n)
		if !slices.Equal(rests, c.rests) || end != c.end || e != c.e {
			t.Errorf("%d: %v, %d, %d", i, rests, end, e)
		}
	}
}

// P5.3: what is put is got, and what is got is put as it was.
func TestBack(t *testing.T) {
	r := rand.New(rand.NewSource(6))
	for range 3000 {
		rests := make([]int64, r.Intn(20))
		for i := range rests {
			if r.Intn(2) == 0 {
				rests[i] = int64(r.Uint64()) >> r.Intn(64)
			}
		}
		b := Put([]byte{8}, rests)
		got, end, e := Get(append(b, byte(r.Intn(256))), 1, len(rests))
		if !slices.Equal(got, rests) || end != len(b) || e != api.Fine || Len(rests) != len(b)-1 {
			t.Fatal(rests, b, got, end, e)
		}
		noise := make([]byte, 10)
		for i := range noise {
			noise[i] = byte(r.Intn(4))
		}
		if got, end, e := Get(noise, 0, 4); e == api.Fine && !bytes.Equal(Put(nil, got), noise[:end]) {
			t.Fatal(noise, got, end)
		}
	}
	big := make([]int64, 1<<20)
	if got, _, e := Get(Put(nil, big), 0, 1<<20); e != api.Fine || !slices.Equal(got, big) {
		t.Error(e)
	}
}
