package file

import (
	"bytes"
	"slices"
	"testing"

	"hachure/api"
	"hachure/crc"
	"hachure/dir"
	"hachure/grid"
	"hachure/paint"
	"hachure/sample"
)

// P14.1: the best predictors, the bytes, and each error in its order.
func TestSave(t *testing.T) {
	g, _ := grid.New(1, 1, 0)
	b, e := Save(g, []int{api.Plain})
	want := crc.Seal([]byte{'H', 'A', 'C', 'H', 1, 0, 0, 0, 0, 1, 0, 0, 0, 21, 0, 0, 0, 3, 0, 0, 0, 0, 0, 0})
	if e != api.Fine || len(b) != 28 || !bytes.Equal(b, want) {
		t.Error(b, e)
	}
	wide, _ := grid.New(17, 1, 900)
	if l, e := Best(wide); e != api.Fine || !slices.Equal(l, []int{api.Left, api.Plain}) {
		t.Error(l, e)
	}
	for _, c := range []struct {
		g     *grid.Grid
		kinds []int
		e     api.Code
	}{
		{nil, nil, api.Nil}, {&grid.Grid{}, nil, api.Nil}, {wide, nil, api.Count}, {wide, []int{9}, api.Count}, {wide, []int{9, 0, 0}, api.Count},
		{wide, []int{0, 3}, api.Arg}, {wide, []int{-1, 0}, api.Arg},
	} {
		if b, e := Save(c.g, c.kinds); e != c.e || b != nil {
			t.Error(c.kinds, b, e)
		}
	}
	if l, e := Best(nil); l != nil || e != api.Nil {
		t.Error(l, e)
	}
}

// P14.2: all other bytes are Broken, also those whose sum is right.
func TestBroken(t *testing.T) {
	g, _ := grid.New(17, 2, 5)
	good, _ := Save(g, []int{1, 1})
	inner, _ := crc.Open(good)
	with := func(at int, to byte) []byte {
		b := bytes.Clone(inner)
		b[at] = to
		return crc.Seal(b)
	}
	size, _ := dir.Size(17, 2)
	for i, b := range [][]byte{
		nil, {}, []byte("HACH"), crc.Seal(nil), good[:len(good)-1], append(bytes.Clone(good), 0), crc.Seal(good), crc.Seal(inner[:len(inner)-1]), crc.Seal(append(bytes.Clone(inner), 0)),
		with(0, 'h'), with(4, 0), with(9, 3), with(17, 9), with(int(size), 3), with(int(size)+1, 0), crc.Seal(inner[:size]),
	} {
		if g, l, e := Load(b); e != api.Broken || g != nil || l != nil {
			t.Error(i, l, e)
		}
	}
	if _, _, e := Load(with(int(size), 0)); e != api.Fine {
		t.Error("the predictor of a file may be another one", e)
	}
}

// P14.3: what is saved is loaded; what is loaded is saved as it was; the best predictors make the fewest bytes.
func TestBack(t *testing.T) {
	d := sample.New(6)
	for range 80 {
		w, h := d.Between(1, 40), d.Between(1, 40)
		span := int64(1) << d.Upto(31)
		g, _ := paint.From(w, h, d.Values(int(w*h), -span, span-1))
		g.Fill(d.Rect(w, h), 7)
		best, _ := Best(g)
		least, _ := Save(g, best)
		for range 3 {
			kinds := make([]int, len(g.Tiles()))
			for i := range kinds {
				kinds[i] = int(d.Upto(3))
			}
			b, e := Save(g, kinds)
			back, k, e2 := Load(b)
			if e != api.Fine || e2 != api.Fine || !grid.Same(back, g) || !slices.Equal(k, kinds) || len(least) > len(b) {
				t.Fatal(w, h, e, e2)
			}
			turned := bytes.Clone(b)
			turned[d.Upto(int64(len(b)))] ^= byte(d.Between(1, 255))
			behind := append(bytes.Clone(b), byte(d.Upto(256)))
			for _, bad := range [][]byte{turned, behind, b[:d.Upto(int64(len(b)))]} {
				if _, _, e := Load(bad); e != api.Broken {
					t.Fatal(e)
				}
			}
		}
	}
}

// P14.2: bytes with a right sum are Broken, or are just the file of what they load.
func TestSealedNoise(t *testing.T) {
	d := sample.New(7)
	g, _ := grid.New(3, 2, 1)
	b, _ := Save(g, []int{2})
	inner, _ := crc.Open(b)
	for range 3000 {
		noise := bytes.Clone(inner)
		noise[d.Upto(int64(len(noise)))] = byte(d.Upto(8))
		noise[d.Upto(int64(len(noise)))] = byte(d.Upto(8))
		sealed := crc.Seal(noise)
		g, kinds, e := Load(sealed)
		if e == api.Broken {
			continue
		}
		if again, e := Save(g, kinds); e != api.Fine || !bytes.Equal(again, sealed) {
			t.Fatal(noise, e)
		}
	}
}
