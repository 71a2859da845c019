package crc

import (
	"bytes"
	"hash/crc32"
	"math/rand"
	"testing"

	"hachure/api"
)

func noise(r *rand.Rand, n int) []byte {
	b := make([]byte, n)
	r.Read(b)
	return b
}

// P3.1: the sum, and going on from one.
func TestSum(t *testing.T) {
	if s := Sum([]byte("123456789")); s != 0xe3069283 {
		t.Errorf("%x", s)
	}
	if Sum(nil) != 0 || Sum([]byte{}) != 0 {
		t.Error("of no bytes")
	}
	table := crc32.MakeTable(crc32.Castagnoli)
	r := rand.New(rand.NewSource(3))
	for range 300 {
		a, b, s := noise(r, r.Intn(40)), noise(r, r.Intn(40)), r.Uint32()
		if Sum(a) != crc32.Checksum(a, table) || More(s, b) != crc32.Update(s, table, b) {
			t.Fatal(a, b, s)
		}
		if More(Sum(a), b) != Sum(append(bytes.Clone(a), b...)) {
			t.Fatal(a, b)
		}
	}
}

// P3.2: sealed bytes, and each error.
func TestSealOpen(t *testing.T) {
	if b := Seal(nil); !bytes.Equal(b, []byte{0, 0, 0, 0}) {
		t.Error(b)
	}
	if b := Seal([]byte("123456789")); !bytes.Equal(b, []byte("123456789\x83\x92\x06\xe3")) {
		t.Error(b)
	}
	in := make([]byte, 2, 20)
	if b := Seal(in); &b[0] == &in[0] || !bytes.Equal(in[:6], make([]byte, 6)) {
		t.Error(in[:6])
	}
	sealed := Seal([]byte{1, 2})
	out, e := Open(sealed)
	if e != api.Fine || !bytes.Equal(out, []byte{1, 2}) {
		t.Fatal(out, e)
	}
	out[0] = 9
	if sealed[0] != 1 {
		t.Error("shared")
	}
	for _, b := range [][]byte{nil, {0}, {0, 0, 0}} {
		if out, e := Open(b); e != api.Short || out != nil {
			t.Error(b, out, e)
		}
	}
	for _, b := range [][]byte{{0, 0, 0, 1}, {0, 0, 0, 0, 0}, {1, 2, 3, 4, 5, 6}} {
		if out, e := Open(b); e != api.Broken || out != nil {
			t.Error(b, out, e)
		}
	}
}

// P3.3: what is sealed is opened; turned bits within 32 in a row are found.
func TestTurnedBits(t *testing.T) {
	r := rand.New(rand.NewSource(4))
	for range 2000 {
		in := noise(r, r.Intn(30))
		b := Seal(in)
		if out, e := Open(b); e != api.Fine || !bytes.Equal(out, in) {
			t.Fatal(in, out, e)
		}
		mask := r.Uint32() | 1
		first := r.Intn(8*len(b) - 31)
		for i := range 32 {
			if mask>>i&1 == 1 {
				b[(first+i)/8] ^= 1 << ((first + i) % 8)
			}
		}
		if _, e := Open(b); e != api.Broken {
			t.Fatal(in, first, mask, e)
		}
	}
}
