package whole

import (
	"math"
	"reflect"
	"slices"
	"strings"
	"testing"

	"hachure/api"
	"hachure/area"
	"hachure/disk"
	"hachure/fen"
	"hachure/grid"
	"hachure/keep"
	"hachure/paint"
	"hachure/past"
	"hachure/pyr"
	"hachure/quad"
	"hachure/sample"
	"hachure/script"
	"hachure/slab"
	"hachure/slope"
	"hachure/snap"
	"hachure/sparse"
	"hachure/store"
	"hachure/zones"
)

// pool throws arguments of each type: such as may be, such as can't be, nobody, numbers at their ends.
type pool struct{ d *sample.Dice }

func pick[T any](d *sample.Dice, l ...T) T {
	return l[d.Upto(int64(len(l)))]
}

func (p pool) number() int64 {
	if p.d.Upto(5) > 0 {
		return p.d.Between(-1, 20)
	}
	return pick[int64](p.d, math.MinInt64, math.MaxInt64, api.MinValue, api.MaxValue, api.MinValue-1, api.MaxValue+1, 1023, 1024, 1025, 1<<20, 1<<20+1, 1<<40, 1<<40+1, -1<<40, 1<<62, 1<<62+1)
}

func (p pool) cell() api.Cell {
	if p.d.Upto(4) > 0 {
		return p.d.Cell(6, 5)
	}
	return api.Cell{X: p.number(), Y: p.number()}
}

func (p pool) rect() api.Rect {
	if p.d.Upto(4) > 0 {
		return p.d.Rect(6, 5)
	}
	return api.Rect{X0: p.number(), Y0: p.number(), X1: p.number(), Y1: p.number()}
}

func (p pool) numbers() []int64 {
	l := p.d.Values(int(pick(p.d, 0, 1, 6, 30, 256)), -4, 9)
	if len(l) > 0 && p.d.Upto(4) == 0 {
		l[p.d.Upto(int64(len(l)))] = p.number()
	}
	return pick(p.d, nil, l, l)
}

func (p pool) bytes() []byte {
	g := p.grid()
	good := store.New()
	good.Do(api.Op{Kind: api.Create, N: 3, M: 2})
	b := pick(p.d, nil, []byte{}, []byte("HACH\x01"), []byte{1, 0, 0, 0, 0}, good.Do(api.Op{Kind: api.Save, N: p.d.Upto(4)}).Bytes, []byte(p.text()))
	if w, _ := g.Size(); w > 0 && len(b) > 0 && p.d.Upto(2) == 0 {
		b[p.d.Upto(int64(len(b)))] = byte(p.d.Upto(256))
	}
	return b
}

func (p pool) text() string {
	s := pick(p.d, "", "-", "12", "-9223372036854775808", "create 3 2", "paste 0 0 1 0 3,4", "load -", "draw 0 0 1 0 0:a", "0:.,3:é", "2 2 +#.##", "1024 1024 .", "\xff\xfe", strings.Repeat("+", 30), strings.Repeat("9", 50))
	return s[p.d.Upto(int64(len(s))+1)/3:]
}

func (p pool) bands() []api.Band {
	return pick(p.d, nil, []api.Band{}, []api.Band{{From: 0, Sign: 'a'}}, []api.Band{{From: -3, Sign: 'é'}, {From: 4, Sign: '.'}}, []api.Band{{From: p.number(), Sign: rune(p.number())}}, slices.Repeat([]api.Band{{Sign: 'b'}}, 20))
}

func (p pool) grid() *grid.Grid {
	w, h := pick(p.d, 6, 6, 6, 17, 1), pick(p.d, 5, 5, 5, 1, 20)
	g, _ := paint.From(int64(w), int64(h), p.d.Values(w*h, pick[int64](p.d, 0, -9, api.MinValue), pick[int64](p.d, 3, 9, api.MaxValue)))
	return pick(p.d, g, g, g, g, g, g, nil, &grid.Grid{})
}

func (p pool) op() api.Op {
	return api.Op{Kind: int(p.d.Between(-1, 29)), R: p.rect(), A: p.cell(), B: p.cell(), N: p.number(), M: p.number(), Values: p.numbers(), Bytes: p.bytes(), Bands: p.bands()}
}

func (p pool) patch() api.Patch {
	return api.Patch{R: p.rect(), Old: p.numbers(), New: p.numbers()}
}

// objects throws those that have methods.
func (p pool) object(t reflect.Type) any {
	g := p.grid()
	switch t {
	case reflect.TypeFor[*grid.Grid]():
		return g
	case reflect.TypeFor[*slab.Slab]():
		s, _ := slab.New(6, 5, p.d.Upto(9))
		return pick(p.d, s, s, nil, &slab.Slab{})
	case reflect.TypeFor[*pyr.Pyr]():
		x, _ := pyr.Build(g)
		return pick(p.d, x, x, nil, &pyr.Pyr{})
	case reflect.TypeFor[*fen.Fen]():
		x, _ := fen.Of(g)
		return pick(p.d, x, x, nil, &fen.Fen{})
	case reflect.TypeFor[*area.Table]():
		x, _ := area.Build(g)
		return pick(p.d, x, x, nil, &area.Table{})
	case reflect.TypeFor[*sparse.Table]():
		x, _ := sparse.Build(g)
		return pick(p.d, x, x, nil, &sparse.Table{})
	case reflect.TypeFor[*snap.Snap]():
		x, _ := snap.Take(g, p.number())
		return pick(p.d, x, x, nil, &snap.Snap{})
	case reflect.TypeFor[*snap.Live]():
		x, _ := snap.Follow(g)
		return pick(p.d, x, x, nil, &snap.Live{})
	case reflect.TypeFor[*past.Past]():
		x := past.New()
		x.Did(p.patch())
		return pick(p.d, x, x, nil, &past.Past{})
	case reflect.TypeFor[*quad.Quad]():
		x, _ := quad.Of(g, p.d.Upto(4))
		return pick(p.d, x, x, nil, &quad.Quad{})
	}
	return p.machine(t)
}

// machine throws those that are told what to do.
func (p pool) machine(t reflect.Type) any {
	d, _ := disk.New(pick[int64](p.d, 4000, 4000, 30, 0))
	d.Append(int(p.d.Upto(2)), p.bytes())
	switch t {
	case reflect.TypeFor[*disk.Disk]():
		d.Fuse(pick[int64](p.d, 0, 1, 3, 1<<40))
		return pick(p.d, d, d, nil, &disk.Disk{})
	case reflect.TypeFor[*store.Store]():
		s := store.New()
		for range p.d.Upto(4) {
			s.Do(p.op())
		}
		s.Do(api.Op{Kind: api.Create, N: 6, M: 5})
		return pick(p.d, s, s, s, store.New(), nil, &store.Store{})
	case reflect.TypeFor[*script.Console]():
		c := script.New()
		c.Do("create 6 5")
		return pick(p.d, c, script.New(), nil, &script.Console{})
	case reflect.TypeFor[*keep.Keeper]():
		k, _ := keep.Create(d)
		k.Do(api.Op{Kind: api.Create, N: 6, M: 5})
		d.Fuse(pick[int64](p.d, 0, 1, 3, 1<<40))
		return pick(p.d, k, k, nil, &keep.Keeper{})
	}
	return nil
}

// value throws an argument of a type.
func (p pool) value(t reflect.Type) reflect.Value {
	v := reflect.New(t).Elem()
	switch x := v.Addr().Interface().(type) {
	case *string:
		*x = p.text()
	case *[]byte:
		*x = p.bytes()
	case *[]int64:
		*x = p.numbers()
	case *[]int:
		*x = slices.Repeat([]int{int(p.d.Between(-1, 3))}, pick(p.d, 0, 1, 4))
	case *[]string:
		*x = slices.Repeat([]string{p.text()}, pick(p.d, 0, 1, 3, 1025))
	case *[]api.Band:
		*x = p.bands()
	case *[]api.Patch:
		*x = pick(p.d, nil, []api.Patch{p.patch(), {}})
	case *[]api.Finding:
		*x = pick(p.d, nil, []api.Finding{{Kind: 1, At: p.cell()}, {Kind: 2, At: p.cell()}})
	case *[]slope.Slope:
		*x = pick(p.d, nil, []slope.Slope{{Up: p.number(), On: p.number()}, {Up: p.number(), On: 1}})
	case *slope.Slope:
		*x = slope.Slope{Up: p.number(), On: p.number()}
	case *zones.Zone:
		*x = zones.Zone{Sum: p.number(), Area: p.number()}
	case *api.Cell:
		*x = p.cell()
	case *api.Rect:
		*x = p.rect()
	case *api.Patch:
		*x = p.patch()
	case *api.Op:
		*x = p.op()
	case *api.Reply:
		*x = api.Reply{Code: api.Code(p.d.Upto(2)), N: p.number(), Yes: p.d.Upto(2) == 0, At: p.cell(), Cells: []api.Cell{p.cell()}, Values: p.numbers(), Bytes: p.bytes()}
	default:
		if v.CanInt() {
			v.SetInt(p.number())
		} else if v.CanUint() {
			v.SetUint(uint64(p.number()))
		} else if o := p.object(t); o != nil {
			v.Set(reflect.ValueOf(o))
		} else {
			panic("no value of " + t.String())
		}
	}
	return v
}

// call calls a function with thrown arguments, and says with which, if it panics; it tells the results.
func (p pool) call(t *testing.T, name string, f reflect.Value) []reflect.Value {
	t.Helper()
	var args []reflect.Value
	var told []any
	for i := range f.Type().NumIn() {
		args = append(args, p.value(f.Type().In(i)))
		told = append(told, args[i].Interface())
	}
	defer func() {
		if x := recover(); x != nil {
			t.Fatalf("%s %+v: %v", name, told, x)
		}
	}()
	return f.Call(args)
}

// zeroBesideError looks at R2: with an error every other result is the zero value, or a list that is empty.
func zeroBesideError(t *testing.T, name string, out []reflect.Value) {
	t.Helper()
	failed := false
	for _, v := range out {
		if e, ok := v.Interface().(api.Code); ok && e != api.Fine {
			failed = true
		}
	}
	for _, v := range out {
		if _, ok := v.Interface().(api.Code); ok || !failed || name == "merge.Apply" {
			continue
		}
		if !v.IsZero() && !(v.Kind() == reflect.Slice && v.Len() == 0) {
			t.Fatal(name, v)
		}
	}
}

// R1, R2: no call panics, whatever it is given; beside an error all is zero.
func TestNoCallPanics(t *testing.T) {
	p := pool{sample.New(99)}
	for name, f := range faces() {
		for range 300 {
			zeroBesideError(t, name, p.call(t, name, reflect.ValueOf(f)))
		}
	}
}

func TestNoMethodPanics(t *testing.T) {
	p := pool{sample.New(98)}
	for _, typ := range []reflect.Type{
		reflect.TypeFor[*grid.Grid](), reflect.TypeFor[*slab.Slab](), reflect.TypeFor[*pyr.Pyr](), reflect.TypeFor[*fen.Fen](), reflect.TypeFor[*area.Table](), reflect.TypeFor[*sparse.Table](),
		reflect.TypeFor[*snap.Snap](), reflect.TypeFor[*snap.Live](), reflect.TypeFor[*past.Past](), reflect.TypeFor[*quad.Quad](), reflect.TypeFor[*disk.Disk](), reflect.TypeFor[*store.Store](),
		reflect.TypeFor[*script.Console](), reflect.TypeFor[*keep.Keeper](),
	} {
		for range 200 {
			o := reflect.ValueOf(p.object(typ))
			for range 6 {
				i := int(p.d.Upto(int64(typ.NumMethod())))
				name := typ.String() + "." + typ.Method(i).Name
				zeroBesideError(t, name, p.call(t, name, o.Method(i)))
			}
		}
	}
}
