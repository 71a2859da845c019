package leb

import (
	"bytes"
	"math"
	"math/rand"
	"testing"

	"hachure/api"
)

// P2.1: folding, unfolding, and how many bytes a number has.
func TestFold(t *testing.T) {
	for _, c := range []struct {
		n int64
		u uint64
	}{{0, 0}, {-1, 1}, {1, 2}, {-2, 3}, {2, 4}, {math.MaxInt64, math.MaxUint64 - 1}, {math.MinInt64, math.MaxUint64}} {
		if u := Fold(c.n); u != c.u {
			t.Errorf("Fold(%d) = %d", c.n, u)
		}
		if n := Unfold(c.u); n != c.n {
			t.Errorf("Unfold(%d) = %d", c.u, n)
		}
	}
}

func TestLen(t *testing.T) {
	for _, c := range []struct {
		u uint64
		n int
	}{{0, 1}, {1, 1}, {127, 1}, {128, 2}, {1<<14 - 1, 2}, {1 << 14, 3}, {1<<56 - 1, 8}, {1 << 56, 9}, {1<<63 - 1, 9}, {1 << 63, 10}, {math.MaxUint64, 10}} {
		if n := Len(c.u); n != c.n {
			t.Errorf("Len(%d) = %d", c.u, n)
		}
	}
}

// P2.2: the bytes stand behind b, in new memory.
func TestPut(t *testing.T) {
	if b := Put(nil, 300); !bytes.Equal(b, []byte{0xac, 0x02}) {
		t.Error(b)
	}
	if b := Put(nil, 0); !bytes.Equal(b, []byte{0}) {
		t.Error(b)
	}
	old := make([]byte, 2, 20)
	b := Put(old, 5)
	b[0] = 9
	if !bytes.Equal(b, []byte{9, 0, 5}) || old[0] != 0 || old[:3][2] != 0 {
		t.Error(old[:3], b)
	}
}

// P2.3: each error, in its order.
func TestGet(t *testing.T) {
	nines := bytes.Repeat([]byte{0xff}, 9)
	full := append(bytes.Clone(nines), 1)
	for i, c := range []struct {
		b   []byte
		at  int
		u   uint64
		end int
		e   api.Code
	}{
		{[]byte{7, 0xac, 2, 9}, 1, 300, 3, api.Fine},
		{[]byte{0}, 0, 0, 1, api.Fine},
		{[]byte{0, 0}, 0, 0, 1, api.Fine},
		{full, 0, math.MaxUint64, 10, api.Fine},
		{nil, 0, 0, 0, api.Short},
		{[]byte{1}, 1, 0, 0, api.Short},
		{[]byte{0x80}, 0, 0, 0, api.Short},
		{nines, 0, 0, 0, api.Short},
		{append(bytes.Clone(nines), 2), 0, 0, 0, api.Form},
		{append(bytes.Clone(nines), 0x81), 0, 0, 0, api.Form},
		{append(bytes.Clone(nines), 0x80), 0, 0, 0, api.Form},
		{append(bytes.Clone(nines), 0), 0, 0, 0, api.Form},
		{[]byte{0x80, 0}, 0, 0, 0, api.Form},
		{[]byte{0x80, 0x80, 0}, 0, 0, 0, api.Form},
		{[]byte{0x80, 0x80, 1}, 0, 1 << 14, 3, api.Fine},
		{[]byte{1}, -1, 0, 0, api.Arg},
		{[]byte{1}, 2, 0, 0, api.Arg},
		{nil, math.MaxInt, 0, 0, api.Arg},
		{nil, math.MinInt, 0, 0, api.Arg},
	} {
		if u, end, e := Get(c.b, c.at); u != c.u || end != c.end || e != c.e {
			t.Errorf("%d: %d, %d, %d", i, u, end, e)
		}
	}
}

// P2.4: what is put is got; bytes that are got are put as they were, so unlike numbers have unlike bytes.
func TestPutGet(t *testing.T) {
	r := rand.New(rand.NewSource(2))
	for range 5000 {
		u := r.Uint64() >> r.Intn(64)
		if Fold(Unfold(u)) != u || Unfold(Fold(int64(u))) != int64(u) {
			t.Fatal(u)
		}
		b := Put([]byte{1, 2}, u)
		if got, end, e := Get(append(b, 0xff), 2); got != u || end != len(b) || e != api.Fine || Len(u) != len(b)-2 {
			t.Fatal(u, b, got, end, e)
		}
		for cut := 2; cut < len(b); cut++ {
			if _, _, e := Get(b[:cut], 2); e != api.Short {
				t.Fatal(b, cut, e)
			}
		}
		any := make([]byte, 12)
		r.Read(any)
		if got, end, e := Get(any, 0); e == api.Fine && !bytes.Equal(Put(nil, got), any[:end]) {
			t.Fatal(any)
		}
	}
}
