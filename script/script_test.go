package script

import (
	"bytes"
	"math"
	"reflect"
	"slices"
	"strings"
	"testing"

	"hachure/api"
	"hachure/sample"
	"hachure/store"
)

var R, C = sample.Rect, sample.Cell

// full has something in each of its parts.
func full(kind int) api.Op {
	return api.Op{Kind: kind, R: R(1, 2, 3, 4), A: C(5, -6), B: C(7, 8), N: -9, M: 10, Values: []int64{11, -12, 0}, Bytes: []byte{0x0f, 0xa0}, Bands: []api.Band{{From: -5, Sign: '.'}, {From: 0, Sign: 'é'}}}
}

// lines are those of full, by kinds, and what is left of it.
var lines = []struct {
	line string
	left api.Op
}{
	{"create -9 10", api.Op{N: -9, M: 10}},
	{"set 5 -6 -9", api.Op{A: C(5, -6), N: -9}},
	{"fill 1 2 3 4 -9", api.Op{R: R(1, 2, 3, 4), N: -9}},
	{"paste 1 2 3 4 11,-12,0", api.Op{R: R(1, 2, 3, 4), Values: []int64{11, -12, 0}}},
	{"add 1 2 3 4 -9", api.Op{R: R(1, 2, 3, 4), N: -9}},
	{"get 5 -6", api.Op{A: C(5, -6)}},
	{"sum 1 2 3 4", api.Op{R: R(1, 2, 3, 4)}},
	{"min 1 2 3 4", api.Op{R: R(1, 2, 3, 4)}},
	{"max 1 2 3 4", api.Op{R: R(1, 2, 3, 4)}},
	{"over 1 2 3 4 -9", api.Op{R: R(1, 2, 3, 4), N: -9}},
	{"rank 1 2 3 4 -9", api.Op{R: R(1, 2, 3, 4), N: -9}},
	{"sight 5 -6 -9 7 8 10", api.Op{A: C(5, -6), N: -9, B: C(7, 8), M: 10}},
	{"view 5 -6 -9 10 7", api.Op{A: C(5, -6), N: -9, M: 10, B: C(7, 0)}},
	{"regions -9", api.Op{N: -9}},
	{"sink 5 -6", api.Op{A: C(5, -6)}},
	{"route 5 -6 7 8", api.Op{A: C(5, -6), B: C(7, 8)}},
	{"level -9 10", api.Op{N: -9, M: 10}},
	{"freeze", api.Op{}},
	{"thaw", api.Op{}},
	{"oldsum 1 2 3 4", api.Op{R: R(1, 2, 3, 4)}},
	{"oldmin 1 2 3 4", api.Op{R: R(1, 2, 3, 4)}},
	{"oldmax 1 2 3 4", api.Op{R: R(1, 2, 3, 4)}},
	{"save -9", api.Op{N: -9}},
	{"load 0fa0", api.Op{Bytes: []byte{0x0f, 0xa0}}},
	{"undo", api.Op{}},
	{"redo", api.Op{}},
	{"draw 1 2 3 4 -5:.,0:é", api.Op{R: R(1, 2, 3, 4), Bands: full(0).Bands}},
}

// P37.1, P37.3: each kind's line, told and taken.
func TestPrintParse(t *testing.T) {
	if len(lines) != api.MostKind {
		t.Fatal(len(lines))
	}
	for i, c := range lines {
		c.left.Kind = i + 1
		if s, e := Print(full(i + 1)); s != c.line || e != api.Fine {
			t.Errorf("%q, not %q, %d", s, c.line, e)
		}
		if o, e := Parse(c.line); !reflect.DeepEqual(o, c.left) || e != api.Fine {
			t.Errorf("%q: %+v, %d", c.line, o, e)
		}
	}
	for _, c := range []struct {
		o    api.Op
		line string
		e    api.Code
	}{
		{api.Op{Kind: api.Paste}, "paste 0 0 0 0 -", api.Fine}, {api.Op{Kind: api.Load, Bytes: []byte{}}, "load -", api.Fine}, {api.Op{Kind: api.Draw}, "", api.Form}, {api.Op{Kind: api.Draw, Bands: []api.Band{{Sign: ','}}}, "", api.Form},
		{api.Op{}, "", api.Form}, {api.Op{Kind: -1}, "", api.Form}, {api.Op{Kind: 28}, "", api.Form}, {api.Op{Kind: math.MaxInt}, "", api.Form}, {api.Op{Kind: math.MinInt}, "", api.Form},
		{api.Op{Kind: api.Create, N: math.MinInt64, M: math.MaxInt64}, "create -9223372036854775808 9223372036854775807", api.Fine},
		{api.Op{Kind: api.Paste, Values: []int64{-1}}, "paste 0 0 0 0 -1", api.Fine},
	} {
		s, e := Print(c.o)
		if s != c.line || e != c.e {
			t.Errorf("%+v: %q, %d", c.o, s, e)
		}
		if o, e := Parse(s); c.e == api.Fine && (e != api.Fine || o.Kind != c.o.Kind || !slices.Equal(o.Values, c.o.Values) || !bytes.Equal(o.Bytes, c.o.Bytes)) {
			t.Errorf("%q: %+v, %d", s, o, e)
		}
	}
}

// P37.1, P37.3: other texts; what is parsed is printed as it was.
func TestWrongLines(t *testing.T) {
	for _, s := range []string{
		"", " ", "freeze ", " freeze", "Freeze", "freeze 1", "create", "create 1", "create 1 2 3", "create  1 2", "create 1 2 ", "create\t1 2", "create 01 2", "create +1 2", "create -0 2",
		"create 9223372036854775808 1", "create 1 x", "paste 0 0 0 0", "paste 0 0 0 0 ", "paste 0 0 0 0 1,", "paste 0 0 0 0 ,1", "paste 0 0 0 0 1,,2", "paste 0 0 0 0 1;2", "paste 0 0 0 0 --", "paste 0 0 0 0 -,1",
		"paste 0 0 0 0 9223372036854775808", "load", "load ", "load 0", "load 0F", "load 0g", "load 00 00", "load 0x00", "load --", "load é0", "load 0\xff", "load -0", "draw 0 0 0 0", "draw 0 0 0 0 -", "draw 0 0 0 0 0:a,0:b", "draw 0 0 0 0 0:, ",
		"sum 0 0 0", "view 1 2 3 4", "view 1 2 3 4 5 6", "fly", "undo\n", "create 1 2\x00", "кот",
	} {
		if o, e := Parse(s); e != api.Word || !reflect.DeepEqual(o, api.Op{}) {
			t.Errorf("%q: %+v, %d", s, o, e)
		}
	}
	d := sample.New(36)
	for range 20000 {
		b := []byte(lines[d.Upto(int64(len(lines)))].line)
		b[d.Upto(int64(len(b)))] = " 0-,12:af\xff"[d.Upto(10)]
		s := string(b)
		if o, e := Parse(s); e == api.Fine {
			if again, e := Print(o); again != s || e != api.Fine {
				t.Fatalf("%q: %q", s, again)
			}
		}
	}
}

// P37.1: the lines of a reply to each kind.
func TestAnswer(t *testing.T) {
	r := api.Reply{N: 3, Yes: false, At: C(1, 2), Cells: []api.Cell{C(4, 5), C(6, 7)}, Values: []int64{8, -9}, Parts: []api.Part{{Label: 1, Area: 2, First: C(3, 4), Box: R(5, 6, 7, 8)}, {Label: 2}}, Bytes: []byte{1, 0xef}, Lines: []string{"ab", ""}}
	want := map[int][]string{
		api.Min: {"ok 3 1 2"}, api.Max: {"ok 3 1 2"}, api.Sight: {"ok no 1 2"}, api.View: {"ok 3 4,5 6,7"}, api.Route: {"ok 3 4,5 6,7"}, api.Sink: {"ok 4,5 6,7"},
		api.Regions: {"ok 3", "1 2 3 4 5 6 7 8", "2 0 0 0 0 0 0 0"}, api.Level: {"ok 1 2 8,-9"}, api.Save: {"ok 01ef"}, api.Draw: {"ok", "ab", ""},
	}
	for _, kind := range []int{api.Get, api.Sum, api.Over, api.Rank, api.OldSum, api.OldMin, api.OldMax} {
		want[kind] = []string{"ok 3"}
	}
	for kind := -1; kind <= api.MostKind+1; kind++ {
		w := want[kind]
		if w == nil {
			w = []string{"ok"}
		}
		if l := Answer(kind, r); !slices.Equal(l, w) {
			t.Errorf("%d: %q, not %q", kind, l, w)
		}
		bad := r
		bad.Code = -7
		if l := Answer(kind, bad); !slices.Equal(l, []string{"error -7"}) {
			t.Errorf("%d: %q", kind, l)
		}
	}
	for _, c := range []struct {
		kind int
		r    api.Reply
		line string
	}{{api.Sight, api.Reply{Yes: true}, "ok yes"}, {api.View, api.Reply{}, "ok 0"}, {api.Sink, api.Reply{}, "ok"}, {api.Level, api.Reply{}, "ok 0 0 -"}, {api.Save, api.Reply{}, "ok -"}, {api.Regions, api.Reply{}, "ok 0"}, {api.Draw, api.Reply{}, "ok"}} {
		if l := Answer(c.kind, c.r); !slices.Equal(l, []string{c.line}) {
			t.Errorf("%d: %q", c.kind, l)
		}
	}
}

// P37.2: the examples; another line changes nothing.
func TestConsole(t *testing.T) {
	c := New()
	got := c.Run([]string{"get 0 0", "create 3 1", "paste 0 0 2 0 0,5,0", "sight 0 0 0 2 0 9", "sight 0 0 0 2 0 10", "sum 0 0 2 0", "sum 0 0 3 0", "sum 0 0 2  0", "draw 0 0 2 0 0:.,5:#", "regions 5", "undo", "sum 0 0 2 0"})
	want := []string{"error 2", "ok", "ok", "ok no 1 0", "ok yes", "ok 5", "error 4", "error 12", "ok", ".#.", "ok 1", "1 1 1 0 1 0 1 0", "ok", "ok 0"}
	if !slices.Equal(got, want) {
		t.Errorf("%q", got)
	}
	var none *Console
	if l := none.Run([]string{"create 1 1", "?"}); !slices.Equal(l, []string{"error 1", "error 1"}) {
		t.Errorf("%q", l)
	}
	if len(New().Run(nil)) != 0 || !slices.Equal((&Console{}).Do("create 1 1"), []string{"error 1"}) {
		t.Error("nothing to tell")
	}
}

// P37.3: a console says what its store replies.
func TestAsStore(t *testing.T) {
	c, s := New(), store.New()
	d := sample.New(37)
	for k := range 2000 {
		o := api.Op{Kind: int(d.Between(2, api.MostKind)), R: d.Rect(5, 4), A: d.Cell(5, 4), B: d.Cell(5, 4), N: d.Between(-1, 5), M: d.Between(-1, 3), Bands: []api.Band{{From: 0, Sign: 'é'}}}
		o.Values = d.Values(int((o.R.X1-o.R.X0+1)*(o.R.Y1-o.R.Y0+1)), -3, 3)
		if k%300 == 5 {
			o.Kind, o.N, o.M = api.Create, 4, 4
		}
		line, _ := Print(o)
		want := Answer(o.Kind, s.Do(o))
		if got := c.Do(line); !slices.Equal(got, want) {
			t.Fatalf("%q: %q, not %q", line, got, want)
		}
	}
	long := "paste 0 0 99 99 " + strings.Repeat("1,", 9999) + "1"
	if got := c.Run([]string{"create 100 100", long, "sum 0 0 99 99"}); !slices.Equal(got, []string{"ok", "ok", "ok 10000"}) {
		t.Error(got)
	}
}
