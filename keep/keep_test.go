package keep

import (
	"bytes"
	"reflect"
	"strings"
	"testing"

	"hachure/api"
	"hachure/disk"
	"hachure/file"
	"hachure/grid"
	"hachure/journal"
	"hachure/leb"
	"hachure/sample"
	"hachure/script"
	"hachure/store"
)

var R, C = sample.Rect, sample.Cell

func made(t *testing.T, room int64) (*Keeper, *disk.Disk) {
	t.Helper()
	d, _ := disk.New(room)
	k, e := Create(d)
	if e != api.Fine {
		t.Fatal(e)
	}
	return k, d
}

func tell(t *testing.T, k *Keeper, lines ...string) {
	t.Helper()
	for _, line := range lines {
		o, _ := script.Parse(line)
		if r := k.Do(o); r.Code != api.Fine {
			t.Fatal(line, r)
		}
	}
}

func sum(k *Keeper) int64 {
	w, h := k.Grid().Size()
	return k.Do(api.Op{Kind: api.Sum, R: R(0, 0, w-1, h-1)}).N
}

// bytesOf is what a file of the disk has.
func bytesOf(d *disk.Disk, file int) []byte {
	b, _ := d.Read(file)
	return b
}

// imageOf is the bytes of a grid's file, by the best predictors.
func imageOf(g *grid.Grid) []byte {
	best, _ := file.Best(g)
	b, _ := file.Save(g, best)
	return b
}

func records(l ...string) []byte {
	var b []byte
	for _, s := range l {
		b, _ = journal.Put(b, []byte(s))
	}
	return b
}

// P41.1: what a new keeper lays on the disk, and the disk's errors.
func TestCreate(t *testing.T) {
	d, _ := disk.New(100)
	d.Append(0, []byte("old"))
	d.Append(1, []byte("older"))
	k, e := Create(d)
	if e != api.Fine || k.Epoch() != 1 || k.Down() || k.Grid() != nil {
		t.Error(e, k.Epoch())
	}
	d.Crash(0)
	if !bytes.Equal(bytesOf(d, 0), records("\x01")) || len(bytesOf(d, 1)) != 0 {
		t.Error(bytesOf(d, 0), bytesOf(d, 1))
	}
	for n := range int64(4) {
		d, _ := disk.New(100)
		d.Fuse(n)
		if k, e := Create(d); k != nil || e != api.Down {
			t.Error(n, e)
		}
	}
	small, _ := disk.New(5)
	if k, e := Create(small); k != nil || e != api.Full {
		t.Error(e)
	}
	if k, e := Create(nil); k != nil || e != api.Nil {
		t.Error(e)
	}
}

// P41.1: which file counts, and what is Broken.
func TestOpen(t *testing.T) {
	g, _ := grid.New(2, 1, 7)
	image := imageOf(g)
	epoch := func(n uint64, image []byte) string { return string(leb.Put(nil, n)) + string(image) }
	for i, c := range []struct {
		first, second []byte
		e             api.Code
		epoch         int64
		sum           int64
	}{
		{nil, nil, api.Broken, 0, 0}, {[]byte("HACH"), []byte{0, 0, 0}, api.Broken, 0, 0},
		{records(epoch(5, image)), nil, api.Fine, 5, 14}, {nil, records(epoch(5, image)), api.Fine, 5, 14},
		{records(epoch(5, image)), records(epoch(6, nil), "create 1 1", "set 0 0 3"), api.Fine, 6, 3},
		{records(epoch(5, image)), records(epoch(5, nil), "create 1 1", "set 0 0 3"), api.Fine, 5, 14},
		{records(epoch(5, image)), records(epoch(6, image[1:])), api.Fine, 5, 14},
		{records(epoch(0, image)), nil, api.Broken, 0, 0}, {records(epoch(1<<62+1, image)), nil, api.Broken, 0, 0}, {records(epoch(1<<62, image)), nil, api.Fine, 1 << 62, 14},
		{records("", "create 1 1"), nil, api.Broken, 0, 0}, {records("\x80\x00"), nil, api.Broken, 0, 0}, {records(epoch(1, append(bytes.Clone(image), 0))), nil, api.Broken, 0, 0},
		{records(epoch(5, image)), records(epoch(6, nil), "create 1 1", "sum 0 0 0 0"), api.Broken, 0, 0},
		{records(epoch(5, image)), records(epoch(6, nil), "create 0 1"), api.Broken, 0, 0},
		{records(epoch(5, image), "undo"), nil, api.Broken, 0, 0}, {records(epoch(5, image), "set 0 0 1 "), nil, api.Broken, 0, 0}, {records(epoch(5, image), ""), nil, api.Broken, 0, 0},
		{append(records(epoch(5, image), "fill 0 0 1 0 2"), records("undo")[1:]...), records("\x00"), api.Fine, 5, 4},
	} {
		d, _ := disk.New(1000)
		d.Append(0, c.first)
		d.Append(1, c.second)
		k, e := Open(d)
		if e != c.e || (k == nil) != (e != api.Fine) || k.Epoch() != c.epoch {
			t.Error(i, e, k.Epoch())
		}
		if k != nil && sum(k) != c.sum {
			t.Error(i, sum(k))
		}
	}
	if k, e := Open(nil); k != nil || e != api.Nil {
		t.Error(e)
	}
	d, _ := disk.New(9)
	d.Fuse(0)
	d.Sync()
	if k, e := Open(d); k != nil || e != api.Down {
		t.Error(e)
	}
}

// P41.1: a torn end is cut off, and that lasts.
func TestTorn(t *testing.T) {
	whole := records("\x01", "create 1 1")
	for fuse := range int64(3) {
		d, _ := disk.New(1000)
		d.Append(0, append(bytes.Clone(whole), 9, 9))
		d.Append(1, []byte("torn"))
		d.Sync()
		d.Fuse(fuse)
		k, e := Open(d)
		if fuse < 2 {
			if k != nil || e != api.Down {
				t.Error(fuse, e)
			}
			continue
		}
		d.Crash(0)
		if e != api.Fine || !bytes.Equal(bytesOf(d, 0), whole) || string(bytesOf(d, 1)) != "torn" {
			t.Error(e, bytesOf(d, 0))
		}
		d.Fuse(0)
		if _, e := Open(d); e != api.Fine {
			t.Error("a deed without a torn end", e)
		}
	}
}

// P41.2: the example; a keeper answers as a store; kept ops alone are recorded.
func TestDo(t *testing.T) {
	k, d := made(t, 10000)
	tell(t, k, "create 2 1", "set 0 0 5")
	d.Fuse(1)
	if r := k.Do(api.Op{Kind: api.Fill, R: R(0, 0, 1, 0), N: 7}); !reflect.DeepEqual(r, api.Reply{Code: api.Down}) || !k.Down() {
		t.Error(r)
	}
	if v, _ := k.Grid().At(C(0, 0)); v != 5 || k.Do(api.Op{Kind: api.Get}).Code != api.Down || k.Fold() != api.Down || k.Epoch() != 1 {
		t.Error("it tells what was", v)
	}
	if done, back := k.Past(); done != 1 || back != 0 {
		t.Error(done, back)
	}
	d.Crash(0)
	if again, e := Open(d); e != api.Fine || sum(again) != 5 {
		t.Error(e)
	}
	k, d = made(t, 10000)
	tell(t, k, "create 2 1", "set 0 0 5", "freeze", "fill 0 0 1 0 3", "sum 0 0 1 0", "oldsum 0 0 1 0", "undo", "redo", "add 0 0 0 0 1", "paste 0 0 1 0 4,4", "thaw", "save 1", "draw 0 0 0 0 0:a")
	want := records("\x01", "create 2 1", "set 0 0 5", "freeze", "fill 0 0 1 0 3", "undo", "redo", "add 0 0 0 0 1", "paste 0 0 1 0 4,4", "thaw")
	if !bytes.Equal(bytesOf(d, 0), want) || len(bytesOf(d, 1)) != 0 {
		t.Errorf("%q", bytesOf(d, 0))
	}
	for _, o := range []api.Op{{Kind: api.Set, A: C(9, 9)}, {Kind: api.Thaw}, {Kind: 99}, {Kind: api.Load}, {Kind: api.Fill, N: 1 << 40}} {
		if k.Do(o).Code == api.Fine {
			t.Error(o)
		}
	}
	if !bytes.Equal(bytesOf(d, 0), want) {
		t.Error("refused, but recorded")
	}
}

// P41.2: Full: the store is as if it hadn't been told.
func TestFull(t *testing.T) {
	k, d := made(t, int64(len(records("\x01", "create 2 1", "set 0 0 5", "set 1 0 6", "freeze", "undo"))+len(records("set 0 0 8"))-1))
	tell(t, k, "create 2 1", "set 0 0 5", "set 1 0 6", "freeze", "undo")
	was := bytesOf(d, 0)
	for range 2 {
		if r := k.Do(api.Op{Kind: api.Set, N: 8}); !reflect.DeepEqual(r, api.Reply{Code: api.Full}) || k.Down() {
			t.Error(r)
		}
		if r := k.Do(api.Op{Kind: api.Set, A: C(0, 9)}); r.Code != api.Place {
			t.Error("the store's code goes ahead", r)
		}
		done, back := k.Past()
		if done != 1 || back != 1 || sum(k) != 5 || k.Do(api.Op{Kind: api.OldSum, R: R(0, 0, 1, 0)}).N != 11 || !bytes.Equal(bytesOf(d, 0), was) {
			t.Error(done, back, sum(k))
		}
	}
	d.Fuse(0)
	if r := k.Do(api.Op{Kind: api.Set, N: 8}); r.Code != api.Full || k.Down() {
		t.Error("Full is told ahead of Down", r)
	}
	if r := k.Do(api.Op{Kind: api.Redo}); r.Code != api.Down || !k.Down() || sum(k) != 0 {
		t.Error(r)
	}
	k, _ = made(t, api.MaxDisk)
	tell(t, k, "create 1024 1024")
	long := strings.Repeat("-2147483648,", 1<<17)
	o, _ := script.Parse("paste 0 0 1023 127 " + long[:len(long)-1])
	if r := k.Do(o); r.Code != api.Full || k.Do(api.Op{Kind: api.Sum, R: R(0, 0, 1023, 1023)}).N != 0 {
		t.Error(r.Code)
	}
}

// P41.3: folds, and each error in its order.
func TestFold(t *testing.T) {
	k, d := made(t, 1000)
	if e := k.Fold(); e != api.Fine || k.Epoch() != 2 || k.Grid() != nil || !bytes.Equal(bytesOf(d, 1), records("\x02")) {
		t.Error(e, bytesOf(d, 1))
	}
	tell(t, k, "create 2 1", "set 0 0 5", "set 1 0 6", "freeze", "undo")
	if !bytes.HasPrefix(bytesOf(d, 1), records("\x02", "create 2 1")) {
		t.Error("the file that counts", bytesOf(d, 1))
	}
	g := k.Grid()
	image := imageOf(g)
	if e := k.Fold(); e != api.Fine || k.Epoch() != 3 || !bytes.Equal(bytesOf(d, 0), records("\x03"+string(image))) {
		t.Error(e, bytesOf(d, 0))
	}
	done, back := k.Past()
	if done != 0 || back != 0 || !grid.Same(k.Grid(), g) || k.Do(api.Op{Kind: api.Thaw}).Code != api.Lost {
		t.Error(done, back)
	}
	tell(t, k, "set 0 0 9")
	d.Crash(0)
	again, e := Open(d)
	if e != api.Fine || again.Epoch() != 3 || sum(again) != 9 {
		t.Error(e)
	}
}

// P41.2, P41.3: a record that just fills the room is kept, one that has a byte more isn't.
func TestJustRoom(t *testing.T) {
	create, set := records("\x01", "create 3 1"), records("set 0 0 5")
	g, _ := grid.New(3, 1, 0)
	fold := records("\x02" + string(imageOf(g)))
	for more, e := range map[int]api.Code{-1: api.Full, 0: api.Fine} {
		k, d := made(t, int64(len(create)+len(set)+more))
		tell(t, k, "create 3 1")
		if r := k.Do(api.Op{Kind: api.Set, N: 5}); r.Code != e || e == api.Fine && d.Left() != 0 {
			t.Error(more, r, d.Left())
		}
		k, d = made(t, int64(len(create)+len(fold)+more))
		tell(t, k, "create 3 1")
		if got := k.Fold(); got != e || e == api.Fine && d.Left() != 0 {
			t.Error(more, got, d.Left())
		}
	}
}

func TestFoldFull(t *testing.T) {
	room := int64(len(records("\x01", "create 3 1")))
	k, d := made(t, room+20)
	d.Append(1, []byte("left over"))
	tell(t, k, "create 3 1")
	if e := k.Fold(); e != api.Full || k.Down() || k.Epoch() != 1 || len(bytesOf(d, 1)) != 0 || k.Grid() == nil {
		t.Error(e)
	}
	d.Fuse(1)
	if e := k.Fold(); e != api.Full || k.Down() {
		t.Error("Full is told ahead of Down", e)
	}
	if e := k.Fold(); e != api.Down || !k.Down() || k.Epoch() != 1 {
		t.Error("dark ahead of the cut", e)
	}
	d, _ = disk.New(100)
	d.Append(0, records(string(leb.Put(nil, 1<<62))))
	d.Append(1, []byte("stays"))
	k, _ = Open(d)
	if e := k.Fold(); e != api.Full || string(bytesOf(d, 1)) != "stays" {
		t.Error(e)
	}
	k, _ = made(t, 40000)
	tell(t, k, "create 1024 1024", "fill 0 0 1023 500 7")
	was := k.Grid()
	if e := k.Fold(); e != api.Full || !grid.Same(k.Grid(), was) {
		t.Error(e)
	}
	tell(t, k, "undo")
}

// as tells whether a keeper goes together with a store that was told the same.
func as(k *Keeper, s *store.Store) bool {
	done, back := k.Past()
	d, b := s.Past()
	old := api.Op{Kind: api.OldSum, R: R(0, 0, 1, 0)}
	return grid.Same(k.Grid(), s.Grid()) && done == d && back == b && reflect.DeepEqual(k.Do(old), s.Do(old))
}

// replay is a store that was told an image, and ops.
func replay(image *grid.Grid, ops []api.Op) *store.Store {
	s := store.New()
	if image != nil {
		b := imageOf(image)
		s.Do(api.Op{Kind: api.Load, Bytes: b})
	}
	for _, o := range ops {
		s.Do(o)
	}
	return s
}

// throw is any kept op, and sometimes another one.
func throw(d *sample.Dice) api.Op {
	kinds := []int{api.Set, api.Set, api.Fill, api.Add, api.Paste, api.Freeze, api.Thaw, api.Undo, api.Undo, api.Redo, api.Get}
	o := api.Op{Kind: kinds[d.Upto(int64(len(kinds)))], A: d.Cell(4, 3), R: d.Rect(4, 3), N: d.Between(-3, 3)}
	o.Values = d.Values(int((o.R.X1-o.R.X0+1)*(o.R.Y1-o.R.Y0+1)), -3, 3)
	if d.Upto(40) == 0 {
		o = api.Op{Kind: api.Create, N: 4, M: 3}
	}
	return o
}

// P41.3, P41.4, P41.5: behind any crash all that was answered lasts, and of what was answered Down all or nothing.
func TestCrashes(t *testing.T) {
	dice := sample.New(42)
	for range 400 {
		d, _ := disk.New(4000)
		k, _ := Create(d)
		var image *grid.Grid
		ops := []api.Op{{Kind: api.Create, N: 4, M: 3}}
		k.Do(ops[0])
		d.Fuse(dice.Upto(40))
		for !k.Down() {
			before := replay(image, ops)
			if dice.Upto(8) == 0 {
				folded := replay(before.Grid(), nil)
				if k.Fold() == api.Fine {
					image, ops = before.Grid(), nil
				}
				checkCrash(t, dice, k, d, before, folded)
				continue
			}
			o := throw(dice)
			after := replay(image, append(ops[:len(ops):len(ops)], o))
			r := k.Do(o)
			if r.Code == api.Fine && o.Kind != api.Get {
				ops = append(ops, o)
			}
			if want := before.Do(o); r.Code != api.Down && r.Code != api.Full && !reflect.DeepEqual(r, want) {
				t.Fatal(o, r, want)
			}
			checkCrash(t, dice, k, d, replay(image, ops), after)
		}
	}
}

// checkCrash looks at a keeper that went down, and at what is opened behind a crash.
func checkCrash(t *testing.T, dice *sample.Dice, k *Keeper, d *disk.Disk, before, after *store.Store) {
	t.Helper()
	if !k.Down() {
		return
	}
	done, _ := k.Past()
	if was, _ := before.Past(); done != was || !grid.Same(k.Grid(), before.Grid()) {
		t.Fatal("it tells what was")
	}
	d.Crash(dice.Between(-1, 200))
	again, e := Open(d)
	if e != api.Fine || !as(again, before) && !as(again, after) {
		t.Fatal("what was answered is lost", e)
	}
	more, e := Open(d)
	if e != api.Fine || !grid.Same(more.Grid(), again.Grid()) || more.Epoch() != again.Epoch() {
		t.Fatal("opened again it is another one", e)
	}
}

func TestNil(t *testing.T) {
	for _, k := range []*Keeper{nil, {}} {
		done, back := k.Past()
		if !k.Down() || k.Epoch() != 0 || k.Grid() != nil || done != 0 || back != 0 || k.Fold() != api.Nil || k.Do(api.Op{}).Code != api.Nil {
			t.Error("nil")
		}
	}
}
