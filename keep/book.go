package keep

import (
	"hachure/api"
	"hachure/file"
	"hachure/journal"
	"hachure/leb"
	"hachure/script"
	"hachure/store"
)

// mostEpoch is the last one that there may be.
const mostEpoch = 1 << 62

// book is what a good file of the disk tells: its epoch, its image, the lines of kept ops, and whether, and where, a torn end begins.
type book struct {
	epoch int64
	image []byte
	lines [][]byte
	torn  bool
	end   int64
}

// read tells what a file's bytes tell; false, if it isn't good.
func read(b []byte) (book, bool) {
	records, end := journal.All(b)
	if len(records) == 0 {
		return book{}, false
	}
	epoch, at, e := leb.Get(records[0], 0)
	if e != api.Fine || epoch < 1 || epoch > mostEpoch {
		return book{}, false
	}
	image := records[0][at:]
	if len(image) > 0 {
		if _, _, e := file.Load(image); e != api.Fine {
			return book{}, false
		}
	}
	return book{int64(epoch), image, records[1:], end < len(b), int64(end)}, true
}

// store is one that was told all of it; false, if a line isn't one of a kept op, or isn't answered Fine.
func (x book) store() (*store.Store, bool) {
	s := store.New()
	if len(x.image) > 0 {
		if s.Do(api.Op{Kind: api.Load, Bytes: x.image}).Code != api.Fine {
			return nil, false
		}
	}
	for _, line := range x.lines {
		o, e := script.Parse(string(line))
		if e != api.Fine || !kept(o.Kind) || s.Do(o).Code != api.Fine {
			return nil, false
		}
	}
	return s, true
}

// kept tells whether ops of this kind are kept.
func kept(kind int) bool {
	switch kind {
	case api.Freeze, api.Thaw, api.Load, api.Undo, api.Redo:
		return true
	}
	return api.Create <= kind && kind <= api.Add
}
