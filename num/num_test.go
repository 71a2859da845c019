package num

import (
	"math"
	"math/rand"
	"strconv"
	"strings"
	"testing"

	"hachure/api"
)

// P1.1: the number's text.
func TestPrint(t *testing.T) {
	for _, c := range []struct {
		n int64
		s string
	}{{0, "0"}, {7, "7"}, {-7, "-7"}, {120, "120"}, {math.MaxInt64, "9223372036854775807"}, {math.MinInt64, "-9223372036854775808"}} {
		if s := Print(c.n); s != c.s {
			t.Errorf("Print(%d) = %q", c.n, s)
		}
	}
}

// P1.2: a number from a place on, and each error in its order.
func TestScan(t *testing.T) {
	for _, c := range []struct {
		s   string
		at  int
		n   int64
		end int
		e   api.Code
	}{
		{"ab-12,3", 2, -12, 5, api.Fine},
		{"0", 0, 0, 1, api.Fine},
		{"0x", 0, 0, 1, api.Fine},
		{"0-", 0, 0, 1, api.Fine},
		{"12", 1, 2, 2, api.Fine},
		{"10", 1, 0, 2, api.Fine},
		{"5é", 0, 5, 1, api.Fine},
		{"5\xff", 0, 5, 1, api.Fine},
		{"9223372036854775807 ", 0, math.MaxInt64, 19, api.Fine},
		{"-9223372036854775808-", 0, math.MinInt64, 20, api.Fine},
		{"a-07", 1, 0, 0, api.Word},
		{"-0", 0, 0, 0, api.Word},
		{"-0a", 0, 0, 0, api.Word},
		{"00", 0, 0, 0, api.Word},
		{"--1", 0, 0, 0, api.Word},
		{"-", 0, 0, 0, api.Word},
		{"+1", 0, 0, 0, api.Word},
		{"", 0, 0, 0, api.Word},
		{"1", 1, 0, 0, api.Word},
		{"٣", 0, 0, 0, api.Word},
		{"0" + strings.Repeat("9", 40), 0, 0, 0, api.Word},
		{"9223372036854775808", 0, 0, 0, api.Value},
		{"-9223372036854775809", 0, 0, 0, api.Value},
		{"18446744073709551615", 0, 0, 0, api.Value},
		{"18446744073709551616", 0, 0, 0, api.Value},
		{"184467440737095516160", 0, 0, 0, api.Value},
		{"-" + strings.Repeat("1", 100), 0, 0, 0, api.Value},
		{"1", -1, 0, 0, api.Arg},
		{"1", 2, 0, 0, api.Arg},
		{"", math.MinInt, 0, 0, api.Arg},
		{"", math.MaxInt, 0, 0, api.Arg},
	} {
		n, end, e := Scan(c.s, c.at)
		if n != c.n || end != c.end || e != c.e {
			t.Errorf("Scan(%q, %d) = %d, %d, %d", c.s, c.at, n, end, e)
		}
	}
}

// P1.3: a whole text, Value ahead of what stands behind.
func TestRead(t *testing.T) {
	for _, c := range []struct {
		s string
		n int64
		e api.Code
	}{
		{"-1", -1, api.Fine}, {"1x", 0, api.Word}, {"1 ", 0, api.Word}, {" 1", 0, api.Word}, {"1-", 0, api.Word},
		{"", 0, api.Word}, {"99999999999999999999x", 0, api.Value}, {"1\x00", 0, api.Word},
	} {
		if n, e := Read(c.s); n != c.n || e != c.e {
			t.Errorf("Read(%q) = %d, %d", c.s, n, e)
		}
	}
}

// P1.4: what is printed is read.
func TestPrintRead(t *testing.T) {
	r := rand.New(rand.NewSource(1))
	for range 2000 {
		n := int64(r.Uint64()) >> r.Intn(64)
		s := Print(n)
		if back, e := Read(s); back != n || e != api.Fine || s != strconv.FormatInt(n, 10) {
			t.Fatalf("%d: %q, %d, %d", n, s, back, e)
		}
	}
}
