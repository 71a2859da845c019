package disk

import (
	"bytes"
	"math"
	"slices"
	"testing"

	"hachure/api"
	"hachure/sample"
)

func made(t *testing.T, room int64) *Disk {
	t.Helper()
	d, e := New(room)
	if e != api.Fine {
		t.Fatal(e)
	}
	return d
}

func holds(t *testing.T, d *Disk, first, second string) {
	t.Helper()
	for i, s := range []string{first, second} {
		if b, e := d.Read(i); string(b) != s || e != api.Fine {
			t.Errorf("%d: %q, %d, not %q", i, b, e, s)
		}
	}
}

// P39.1: room, bytes as they are seen, and errors.
func TestNewRead(t *testing.T) {
	for _, room := range []int64{-1, api.MaxDisk + 1, math.MinInt64, math.MaxInt64} {
		if d, e := New(room); d != nil || e != api.Arg {
			t.Error(room, e)
		}
	}
	d := made(t, api.MaxDisk)
	holds(t, d, "", "")
	if d.Left() != api.MaxDisk || d.Dark() {
		t.Error(d.Left())
	}
	b := []byte("ab")
	d.Append(1, b)
	b[0] = 'x'
	got, _ := d.Read(1)
	got[1] = 'y'
	holds(t, d, "", "ab")
	d.Sync()
	d.Crash(0)
	holds(t, d, "", "ab")
	if d.Left() != api.MaxDisk-2 {
		t.Error(d.Left())
	}
	for _, file := range []int{-1, 2, math.MaxInt, math.MinInt} {
		if b, e := d.Read(file); b != nil || e != api.Arg {
			t.Error(file, e)
		}
	}
	d.Fuse(0)
	d.Sync()
	if b, e := d.Read(0); b != nil || e != api.Down || d.Left() != 0 || !d.Dark() {
		t.Error(b, e)
	}
	if _, e := d.Read(2); e != api.Arg {
		t.Error(e)
	}
	if none := made(t, 0); none.Append(0, []byte{1}) != api.Full || none.Append(0, nil) != api.Fine {
		t.Error("no room")
	}
}

// P39.2: each deed, and its errors in their order.
func TestDeeds(t *testing.T) {
	d := made(t, 4)
	for _, c := range []struct{ got, want api.Code }{
		{d.Append(2, []byte("abcdef")), api.Arg}, {d.Append(-1, nil), api.Arg}, {d.Append(0, []byte("abc")), api.Fine}, {d.Append(1, []byte("de")), api.Full}, {d.Append(1, []byte("d")), api.Fine},
		{d.Append(1, []byte("e")), api.Full}, {d.Append(1, nil), api.Fine}, {d.Cut(0, 4), api.Arg}, {d.Cut(0, -1), api.Arg}, {d.Cut(2, 0), api.Arg}, {d.Cut(0, math.MaxInt64), api.Arg}, {d.Cut(0, 1), api.Fine}, {d.Cut(0, 1), api.Fine},
		{d.Append(0, []byte("xy")), api.Fine}, {d.Sync(), api.Fine},
	} {
		if c.got != c.want {
			t.Error(c)
		}
	}
	holds(t, d, "axy", "d")
	if d.Left() != 0 {
		t.Error(d.Left())
	}
}

// P39.2, P39.3: a fuse counts deeds that are done; Down is told ahead of Full, and of a length's Arg.
func TestFuse(t *testing.T) {
	d := made(t, 4)
	if d.Fuse(-1) != api.Arg || d.Fuse(math.MinInt64) != api.Arg || d.Fuse(0) != api.Fine || d.Fuse(3) != api.Fine {
		t.Error("fuse")
	}
	d.Append(0, []byte("ab"))
	d.Append(0, []byte("abc"))
	d.Cut(0, 9)
	d.Append(5, nil)
	d.Read(0)
	d.Cut(0, 1)
	if d.Dark() {
		t.Error("too early")
	}
	d.Sync()
	if d.Dark() {
		t.Error("too early")
	}
	if d.Append(7, nil) != api.Arg || d.Dark() {
		t.Error("no deed")
	}
	if d.Append(0, []byte("abcdef")) != api.Down || !d.Dark() {
		t.Error("not dark")
	}
	for _, c := range []struct{ got, want api.Code }{{d.Append(0, nil), api.Down}, {d.Append(2, nil), api.Arg}, {d.Cut(0, 99), api.Down}, {d.Cut(2, 0), api.Arg}, {d.Sync(), api.Down}, {d.Fuse(1), api.Down}, {d.Fuse(-1), api.Down}} {
		if c.got != c.want {
			t.Error(c)
		}
	}
	if d.Crash(0) != api.Fine || d.Dark() {
		t.Error("dark")
	}
	holds(t, d, "a", "")
	for range 5 {
		if d.Sync() != api.Fine {
			t.Error("a fuse is left")
		}
	}
	d.Fuse(0)
	if d.Cut(0, 99) != api.Down || d.Crash(0) != api.Fine {
		t.Error("cut")
	}
	d.Fuse(0)
	d.Crash(0)
	if d.Sync() != api.Fine {
		t.Error("a fuse is left")
	}
}

// P39.3: the first units were done, the others weren't.
func TestCrash(t *testing.T) {
	for keep, want := range map[int64][2]string{-1: {"ab", ""}, 0: {"ab", ""}, 1: {"abc", ""}, 2: {"abcd", ""}, 3: {"a", ""}, 4: {"a", "x"}, 5: {"a", "xy"}, 6: {"az", "xy"}, 7: {"az", "xy"}, math.MaxInt64: {"az", "xy"}, math.MinInt64: {"ab", ""}} {
		d := made(t, 10)
		d.Append(0, []byte("ab"))
		d.Sync()
		d.Append(0, []byte("cd"))
		d.Cut(0, 1)
		d.Append(1, nil)
		d.Append(1, []byte("xy"))
		d.Append(0, []byte("z"))
		holds(t, d, "az", "xy")
		if e := d.Crash(keep); e != api.Fine {
			t.Error(e)
		}
		holds(t, d, want[0], want[1])
		d.Crash(0)
		holds(t, d, want[0], want[1])
	}
}

// P39.2, P39.3: against units that are done one by one.
func TestAgainstUnits(t *testing.T) {
	dice := sample.New(39)
	for range 400 {
		d := made(t, 30)
		var last [2][]byte
		var waits []func()
		for range 25 {
			file := int(dice.Upto(2))
			now, _ := d.Read(file)
			switch dice.Upto(6) {
			case 0, 1, 2:
				b := []byte("hachure")[:dice.Upto(8)]
				if d.Append(file, b) == api.Fine {
					for _, c := range b {
						waits = append(waits, func() { last[file] = append(last[file], c) })
					}
				}
			case 3:
				n := dice.Upto(int64(len(now)) + 1)
				d.Cut(file, n)
				waits = append(waits, func() { last[file] = slices.Clone(last[file][:n]) })
			case 4:
				d.Sync()
				for _, do := range waits {
					do()
				}
				waits = nil
			case 5:
				keep := dice.Between(-1, int64(len(waits))+1)
				d.Crash(keep)
				for i, do := range waits {
					if int64(i) < keep {
						do()
					}
				}
				waits = nil
				for i := range last {
					if b, _ := d.Read(i); !bytes.Equal(b, last[i]) {
						t.Fatalf("%q, not %q", b, last[i])
					}
				}
			}
		}
	}
}

func TestNil(t *testing.T) {
	var d *Disk
	b, e := d.Read(9)
	if b != nil || e != api.Nil || d.Left() != 0 || !d.Dark() || d.Append(9, nil) != api.Nil || d.Cut(9, -1) != api.Nil || d.Sync() != api.Nil || d.Fuse(-1) != api.Nil || d.Crash(0) != api.Nil {
		t.Error("nil")
	}
}
