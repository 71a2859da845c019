package chart

import (
	"math"
	"slices"
	"strings"
	"testing"

	"hachure/api"
	"hachure/grid"
	"hachure/paint"
	"hachure/sample"
	"hachure/tint"
)

var R, C = sample.Rect, sample.Cell

var legend = []api.Band{{From: -5, Sign: '.'}, {From: 0, Sign: 'o'}, {From: 7, Sign: 'é'}}

// P34.1: a rectangle's chart, and each error in its order.
func TestDraw(t *testing.T) {
	g, _ := paint.From(3, 2, []int64{3, -2, -9, 7, 0, 99})
	if l, e := Draw(g, g.All(), legend); !slices.Equal(l, []string{"o..", "éoé"}) || e != api.Fine {
		t.Error(l, e)
	}
	if l, e := Draw(g, R(1, 1, 2, 1), legend); !slices.Equal(l, []string{"oé"}) || e != api.Fine {
		t.Error(l, e)
	}
	for _, c := range []struct {
		g *grid.Grid
		r api.Rect
		l []api.Band
		e api.Code
	}{
		{nil, R(1, 0, 0, 0), nil, api.Nil}, {&grid.Grid{}, R(1, 0, 0, 0), nil, api.Nil}, {g, R(3, 0, 2, 0), nil, api.Place}, {g, R(1, 0, 0, 0), nil, api.Turned},
		{g, R(0, 0, 0, 0), nil, api.Form}, {g, R(0, 0, 0, 0), []api.Band{{Sign: ':'}}, api.Form},
	} {
		if l, e := Draw(c.g, c.r, c.l); l != nil || e != c.e {
			t.Error(c.r, l, e)
		}
	}
}

// P34.2: a grid of lines, and each error in its order.
func TestRead(t *testing.T) {
	g, e := Read([]string{"o..", "éo."}, legend)
	want, _ := paint.From(3, 2, []int64{0, -5, -5, 7, 0, -5})
	if e != api.Fine || !grid.Same(g, want) {
		t.Error(e)
	}
	wide := strings.Repeat("o", 1024)
	for i, c := range []struct {
		lines []string
		l     []api.Band
		e     api.Code
	}{
		{nil, nil, api.Form}, {nil, legend, api.Size}, {[]string{}, legend, api.Size}, {slices.Repeat([]string{"o"}, 1025), legend, api.Size}, {slices.Repeat([]string{"x"}, 1025), legend, api.Size},
		{slices.Repeat([]string{"o"}, 1024), legend, api.Fine}, {[]string{"ox"}, legend, api.Lost}, {[]string{"o\xc3"}, legend, api.Lost}, {[]string{"o\ufffd"}, legend, api.Lost},
		{[]string{""}, legend, api.Size}, {[]string{"", "x"}, legend, api.Size}, {[]string{wide}, legend, api.Fine}, {[]string{wide + "o"}, legend, api.Size}, {[]string{wide + "ox"}, legend, api.Lost},
		{[]string{"o", "oo"}, legend, api.Count}, {[]string{"oo", "o", "x"}, legend, api.Count}, {[]string{"oo", ""}, legend, api.Count}, {[]string{"oo", "oox"}, legend, api.Lost},
		{[]string{"é", "o"}, legend, api.Fine}, {[]string{"o\n"}, legend, api.Lost},
	} {
		if g, e := Read(c.lines, c.l); e != c.e || (g == nil) != (e != api.Fine) {
			t.Error(i, e)
		}
	}
}

// P34.3: runes by their places, other signs there, and each error in its order.
func TestAtMark(t *testing.T) {
	lines := []string{"aéb", "", "\xffx\xc3", "\ufffd"}
	for _, c := range []struct {
		c      api.Cell
		r      rune
		e      api.Code
		marked string
	}{
		{C(0, 0), 'a', api.Fine, "#éb"}, {C(1, 0), 'é', api.Fine, "a#b"}, {C(2, 0), 'b', api.Fine, "aé#"}, {C(0, 2), 0, api.Word, "#x\xc3"}, {C(1, 2), 'x', api.Fine, "\xff#\xc3"},
		{C(2, 2), 0, api.Word, "\xffx#"}, {C(0, 3), '\ufffd', api.Fine, "#"}, {C(3, 0), 0, api.Place, ""}, {C(0, 1), 0, api.Place, ""}, {C(-1, 0), 0, api.Place, ""}, {C(0, -1), 0, api.Place, ""},
		{C(0, 4), 0, api.Place, ""}, {C(math.MaxInt64, math.MinInt64), 0, api.Place, ""}, {C(math.MinInt64, 0), 0, api.Place, ""},
	} {
		if r, e := At(lines, c.c); r != c.r || e != c.e {
			t.Error(c, r, e)
		}
		l, e := Mark(lines, c.c, '#')
		if c.e == api.Place {
			if l != nil || e != api.Place {
				t.Error(c, l, e)
			}
			continue
		}
		want := slices.Clone(lines)
		want[c.c.Y] = c.marked
		if !slices.Equal(l, want) || e != api.Fine {
			t.Errorf("%v %q %d", c, l, e)
		}
	}
	for _, r := range []rune{',', ':', ' ', -1, 0x10000} {
		if l, e := Mark(lines, C(-1, 0), r); l != nil || e != api.Form {
			t.Error(r, l, e)
		}
	}
	if l, e := Mark(nil, C(0, 0), 'a'); l != nil || e != api.Place {
		t.Error(l, e)
	}
	if l, _ := Mark([]string{"ab"}, C(1, 0), '€'); !slices.Equal(l, []string{"a€"}) {
		t.Error(l)
	}
	if lines[0] != "aéb" {
		t.Error("changed")
	}
}

// P34.4: a chart that is read, and drawn, is the same.
func TestBack(t *testing.T) {
	d := sample.New(33)
	l, _ := tint.Read("-9:.,-3:ä,0:o,4:^")
	for range 200 {
		w, h := d.Between(1, 30), d.Between(1, 30)
		g, _ := paint.From(w, h, d.Values(int(w*h), -12, 12))
		r := d.Rect(w, h)
		lines, e := Draw(g, r, l)
		back, e2 := Read(lines, l)
		again, e3 := Draw(back, back.All(), l)
		if e != api.Fine || e2 != api.Fine || e3 != api.Fine || !slices.Equal(again, lines) {
			t.Fatal(lines, again, e, e2, e3)
		}
	}
}
