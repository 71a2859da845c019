package journal

import (
	"bytes"
	"math"
	"testing"

	"hachure/api"
	"hachure/leb"
	"hachure/sample"
)

func noise(d *sample.Dice, n int64) []byte {
	var b []byte
	for range n {
		b = append(b, byte(d.Upto(256)))
	}
	return b
}

// P40.1: a record behind b, in new memory.
func TestPut(t *testing.T) {
	if b, e := Put(nil, nil); !bytes.Equal(b, []byte{1, 0, 0, 0, 0}) || e != api.Fine {
		t.Error(b, e)
	}
	if b, e := Put([]byte{7}, []byte("123456789")); !bytes.Equal(b, append([]byte{7, 10}, "123456789\x83\x92\x06\xe3"...)) || e != api.Fine {
		t.Error(b, e)
	}
	old := make([]byte, 1, 40)
	if b, _ := Put(old, []byte{1}); &b[0] == &old[0] || old[:2][1] != 0 {
		t.Error("shared")
	}
	long := make([]byte, 1<<20+1)
	if b, e := Put(nil, long); b != nil || e != api.Count {
		t.Error(e)
	}
	b, e := Put(nil, long[1:])
	if got, end, e2 := Get(b, 0); e != api.Fine || e2 != api.Fine || len(got) != 1<<20 || end != len(b) {
		t.Error(e, e2)
	}
}

// P40.1: a record of a place, and each error in its order.
func TestGet(t *testing.T) {
	two, _ := Put([]byte{1, 0, 0, 0, 0}, []byte("ab"))
	got, end, e := Get(two, 5)
	if string(got) != "ab" || end != len(two) || e != api.Fine {
		t.Error(got, end, e)
	}
	got[0] = 'x'
	if two[6] != 'a' {
		t.Error("shared")
	}
	turned := bytes.Clone(two)
	turned[7] ^= 1
	for i, c := range []struct {
		b  []byte
		at int
		e  api.Code
	}{
		{two, -1, api.Arg}, {two, len(two) + 1, api.Arg}, {two, math.MaxInt, api.Arg}, {two, math.MinInt, api.Arg}, {two, len(two), api.Short}, {nil, 0, api.Short}, {[]byte{0x80}, 0, api.Short}, {[]byte{0x81, 0}, 0, api.Form},
		{[]byte{0, 0, 0, 0, 0}, 0, api.Form}, {leb.Put(nil, 1<<20+2), 0, api.Form}, {leb.Put(nil, math.MaxUint64), 0, api.Form}, {leb.Put(nil, 1<<20+1), 0, api.Short}, {two[:len(two)-1], 5, api.Short}, {[]byte{1, 0, 0, 0}, 0, api.Short},
		{turned, 5, api.Broken}, {[]byte{1, 0, 0, 0, 1}, 0, api.Broken}, {two, 1, api.Form},
	} {
		if got, end, e := Get(c.b, c.at); got != nil || end != 0 || e != c.e {
			t.Error(i, got, end, e)
		}
	}
}

// P40.2, P40.3: all records, and any torn end; noughts are no record.
func TestAll(t *testing.T) {
	d := sample.New(40)
	for range 400 {
		var b []byte
		var want [][]byte
		for range d.Upto(5) {
			record := noise(d, d.Upto(20)*d.Upto(20))
			want = append(want, record)
			b, _ = Put(b, record)
		}
		whole := len(b)
		next, _ := Put(nil, noise(d, d.Upto(20)))
		for _, torn := range [][]byte{nil, next[:d.Upto(int64(len(next)))], make([]byte, d.Upto(30))} {
			l, at := All(append(bytes.Clone(b), torn...))
			if len(l) != len(want) || at != whole {
				t.Fatal(len(l), at, len(want), whole)
			}
			for i := range l {
				if !bytes.Equal(l[i], want[i]) {
					t.Fatal(i)
				}
			}
		}
	}
	if l, at := All(nil); len(l) != 0 || at != 0 {
		t.Error(l, at)
	}
}
