package slope

import (
	"math"
	"math/big"
	"math/rand"
	"testing"

	"hachure/api"
)

const least, greatest = math.MinInt64, math.MaxInt64

// P24.1: which slope is more, exactly.
func TestCmp(t *testing.T) {
	for _, c := range []struct {
		a, b  Slope
		order int
		e     api.Code
	}{
		{Slope{1, 3}, Slope{2, 6}, 0, api.Fine}, {Slope{1, 3}, Slope{1, 2}, -1, api.Fine}, {Slope{0, 1}, Slope{0, 9}, 0, api.Fine}, {Slope{-1, 3}, Slope{-1, 2}, 1, api.Fine},
		{Slope{-1, 3}, Slope{0, 1}, -1, api.Fine}, {Slope{least, 1}, Slope{least, 2}, -1, api.Fine}, {Slope{greatest, greatest - 1}, Slope{greatest - 1, greatest}, 1, api.Fine},
		{Slope{least, greatest}, Slope{greatest, greatest}, -1, api.Fine}, {Slope{0, 5}, Slope{-7, 1}, 1, api.Fine}, {Slope{least, 1}, Slope{least, 1}, 0, api.Fine},
		{Slope{1, 0}, Slope{1, 1}, 0, api.Form}, {Slope{1, 1}, Slope{1, 0}, 0, api.Form}, {Slope{5, -1}, Slope{1, 1}, 0, api.Form}, {Slope{5, 1}, Slope{1, least}, 0, api.Form},
	} {
		if order, e := Cmp(c.a, c.b); order != c.order || e != c.e {
			t.Error(c, order, e)
		}
		if Right(c.a) != (c.a.On >= 1) {
			t.Error(c.a)
		}
	}
	r := rand.New(rand.NewSource(10))
	number := func() int64 { return int64(r.Uint64()) >> r.Intn(64) }
	for range 5000 {
		a, b := Slope{number(), number()&greatest | 1}, Slope{number(), number()&greatest | 1}
		if r.Intn(3) == 0 {
			b = Slope{a.Up, a.On/2 + 1}
		}
		want := big.NewRat(a.Up, a.On).Cmp(big.NewRat(b.Up, b.On))
		if order, e := Cmp(a, b); order != want || e != api.Fine {
			t.Fatal(a, b, order, want, e)
		}
		floor := new(big.Int).Div(big.NewInt(a.Up), big.NewInt(a.On))
		if n, e := Floor(a); n != floor.Int64() || e != api.Fine {
			t.Fatal(a, n, floor, e)
		}
	}
}

// P24.1: rounded towards the least.
func TestFloor(t *testing.T) {
	for _, c := range []struct {
		s Slope
		n int64
		e api.Code
	}{
		{Slope{-1, 2}, -1, api.Fine}, {Slope{1, 2}, 0, api.Fine}, {Slope{-4, 2}, -2, api.Fine}, {Slope{least, 1}, least, api.Fine}, {Slope{least, greatest}, -2, api.Fine},
		{Slope{greatest, 1}, greatest, api.Fine}, {Slope{1, 0}, 0, api.Form}, {Slope{least, -1}, 0, api.Form},
	} {
		if n, e := Floor(c.s); n != c.n || e != c.e {
			t.Error(c, n, e)
		}
	}
}

// P24.2: above the line, not on it; each error in its order.
func TestHides(t *testing.T) {
	const far = 1 << 40
	for _, c := range []struct {
		z, from, to, i, n int64
		hides             bool
		e                 api.Code
	}{
		{5, 0, 9, 1, 2, true, api.Fine}, {5, 0, 10, 1, 2, false, api.Fine}, {5, 0, 11, 1, 2, false, api.Fine}, {0, 0, 0, 0, 1, false, api.Fine}, {1, 0, 0, 0, 1, true, api.Fine},
		{far, far, far, 1024, 1024, false, api.Fine}, {far, -far, far, 1023, 1024, true, api.Fine}, {-far, far, -far, 1023, 1024, false, api.Fine}, {-1, -2, 0, 1, 3, true, api.Fine}, {0, -5, 5, 1, 2, false, api.Fine}, {1, -5, 5, 1, 2, true, api.Fine}, {-1, 5, -5, 1, 2, false, api.Fine}, {1, 5, -5, 1, 2, true, api.Fine},
		{far + 1, 0, 0, 0, 0, false, api.Arg}, {0, 0, 0, -1, 1, false, api.Arg}, {0, 0, 0, 2, 1, false, api.Arg}, {0, 0, 0, 0, 1025, false, api.Arg}, {0, 0, 0, least, greatest, false, api.Arg},
		{far + 1, 0, 0, 0, 1, false, api.Value}, {0, -far - 1, 0, 0, 1, false, api.Value}, {0, 0, greatest, 0, 1, false, api.Value}, {least, 0, 0, 1, 1, false, api.Value},
	} {
		if hides, e := Hides(c.z, c.from, c.to, c.i, c.n); hides != c.hides || e != c.e {
			t.Error(c, hides, e)
		}
	}
}

// P24.3: the first of the greatest.
func TestSteepest(t *testing.T) {
	for _, c := range []struct {
		l []Slope
		n int
		e api.Code
	}{
		{[]Slope{{1, 3}, {1, 2}, {2, 4}, {0, 1}}, 1, api.Fine}, {[]Slope{{-3, 1}}, 0, api.Fine}, {[]Slope{{-3, 1}, {-1, 1}, {-2, 2}}, 1, api.Fine},
		{nil, 0, api.Lost}, {[]Slope{}, 0, api.Lost}, {[]Slope{{5, 0}}, 0, api.Form}, {[]Slope{{1, 1}, {9, 1}, {0, -1}}, 0, api.Form},
	} {
		if n, e := Steepest(c.l); n != c.n || e != c.e {
			t.Error(c, n, e)
		}
	}
}
