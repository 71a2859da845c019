package tint

import (
	"math"
	"slices"
	"strings"
	"testing"

	"hachure/api"
	"hachure/num"
	"hachure/sample"
)

func bands(n int) []api.Band {
	var l []api.Band
	for i := range n {
		l = append(l, api.Band{From: int64(i), Sign: 'a' + rune(i)})
	}
	return l
}

var legend = []api.Band{{From: -5, Sign: '.'}, {From: 0, Sign: 'o'}, {From: 10, Sign: '^'}}

// P33.1: signs, at all edges.
func TestSign(t *testing.T) {
	for _, r := range []rune{33, 43, 45, 57, 59, 126, 0xa1, 0xac, 0xae, 0x20ac, 0xd7ff, 0xe000, 0xfffc} {
		if !Sign(r) {
			t.Errorf("%x", r)
		}
	}
	for _, r := range []rune{-1, 0, 32, ',', ':', 127, 128, 0xa0, 0xad, 0xd800, 0xdbff, 0xdfff, 0xfffd, 0xfffe, 0x10000, 0x10ffff, math.MaxInt32, math.MinInt32} {
		if Sign(r) {
			t.Errorf("%x", r)
		}
	}
}

var wrong = [][]api.Band{
	nil, {}, bands(13), {{From: 0, Sign: ','}}, {{From: 0}}, {{From: 1, Sign: 'a'}, {From: 1, Sign: 'b'}}, {{From: 2, Sign: 'a'}, {From: 1, Sign: 'b'}},
	{{From: 1, Sign: 'a'}, {From: 2, Sign: 'a'}}, {{From: api.MinValue - 1, Sign: 'a'}}, {{From: api.MaxValue + 1, Sign: 'a'}}, {{From: 0, Sign: 0x10000}},
}

// P33.1: legends, a value's sign, a sign's From.
func TestRightOfBack(t *testing.T) {
	for _, l := range [][]api.Band{bands(1), bands(12), legend, {{From: api.MinValue, Sign: 0xfffc}, {From: api.MaxValue, Sign: '!'}}} {
		if !Right(l) {
			t.Error(l)
		}
	}
	for _, l := range wrong {
		r, e := Of(l, 0)
		v, e2 := Back(l, 'a')
		s, e3 := Print(l)
		if Right(l) || r != 0 || v != 0 || s != "" || e != api.Form || e2 != api.Form || e3 != api.Form {
			t.Error(l, r, e, v, e2, s, e3)
		}
	}
	for _, c := range []struct {
		v    int64
		sign rune
	}{{-7, '.'}, {-5, '.'}, {-1, '.'}, {0, 'o'}, {9, 'o'}, {10, '^'}, {math.MaxInt64, '^'}, {math.MinInt64, '.'}} {
		if r, e := Of(legend, c.v); r != c.sign || e != api.Fine {
			t.Error(c, r, e)
		}
	}
	if v, e := Back(legend, '^'); v != 10 || e != api.Fine {
		t.Error(v, e)
	}
	for _, r := range []rune{'x', ',', -1, 0xfffd, math.MinInt32} {
		if v, e := Back(legend, r); v != 0 || e != api.Lost {
			t.Error(r, v, e)
		}
	}
}

// P33.2: a legend's text; another text is no legend's.
func TestPrintRead(t *testing.T) {
	if s, e := Print(legend); s != "-5:.,0:o,10:^" || e != api.Fine {
		t.Error(s, e)
	}
	full, _ := Print(bands(12))
	for _, s := range []string{
		"", ",", "0", "0:", ":a", "0:a,", ",0:a", "0:a,,1:b", "0:ab", "0:a ", " 0:a", "00:a", "-0:a", "+1:a", "0::", "0:,", "0:a,0:b", "1:a,0:b", "0:a,1:a",
		"2147483648:a", "-2147483649:a", "9223372036854775808:a", "0:\xff", "0:\xc3", "0:\ufffd", "0:\u00ad", "0:\U00010000", "0:\xed\xa0\x80", "0:a\xff", "0;a", "x:a", full + ",99:!",
		strings.Repeat("0:a,", 100000), "0:a\x00",
	} {
		if l, e := Read(s); l != nil || e != api.Word {
			t.Errorf("%.40q %v %d", s, l, e)
		}
	}
	if l, e := Read("-2147483648:é,2147483647:\ufffc"); !slices.Equal(l, []api.Band{{From: api.MinValue, Sign: 'é'}, {From: api.MaxValue, Sign: 0xfffc}}) || e != api.Fine {
		t.Error(l, e)
	}
}

// P33.3: what is printed is read; a sign tells a From that is no greater, and has the same sign.
func TestBack(t *testing.T) {
	d := sample.New(32)
	for range 500 {
		l := bands(int(d.Between(1, 12)))
		from := d.Between(api.MinValue, 0)
		for i := range l {
			l[i].From = from
			from += d.Between(1, 1<<20)
			l[i].Sign += rune(d.Upto(500)) * 13
		}
		if !Right(l) {
			continue
		}
		s, e := Print(l)
		if got, e2 := Read(s); e != api.Fine || e2 != api.Fine || !slices.Equal(got, l) || !strings.HasPrefix(s, num.Print(l[0].From)+":") {
			t.Fatal(l, s, got, e, e2)
		}
		v := d.Between(l[0].From, api.MaxValue)
		sign, _ := Of(l, v)
		back, e := Back(l, sign)
		if again, _ := Of(l, back); e != api.Fine || back > v || again != sign {
			t.Fatal(l, v, back)
		}
	}
}
