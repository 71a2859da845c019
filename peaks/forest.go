package peaks

// forest is which of the cells that are laid hang together. Of all that do, one is the head; by it stand their greatest value, and the peaks of that value, whose rises aren't known yet.
type forest struct {
	heads []int64
	most  []int64
	open  map[int64][]int
}

func newForest(n int) *forest {
	f := &forest{make([]int64, n), make([]int64, n), map[int64][]int{}}
	for i := range f.heads {
		f.heads[i] = -1
	}
	return f
}

// lay lays a cell, which hangs together with nothing yet.
func (f *forest) lay(at, value int64) {
	f.heads[at], f.most[at] = at, value
}

// head is that of a cell that is laid; the way to it is made shorter.
func (f *forest) head(at int64) int64 {
	for f.heads[at] != at {
		f.heads[at] = f.heads[f.heads[at]]
		at = f.heads[at]
	}
	return at
}

// unite makes two cells hang together, if both are laid; it tells the peaks that now hang together with something higher.
func (f *forest) unite(at, other int64) []int {
	if f.heads[other] < 0 {
		return nil
	}
	low, high := f.head(at), f.head(other)
	if low == high {
		return nil
	}
	if f.most[low] > f.most[high] {
		low, high = high, low
	}
	f.heads[low] = high
	known := f.open[low]
	delete(f.open, low)
	if f.most[low] < f.most[high] {
		return known
	}
	if len(known) > len(f.open[high]) {
		known, f.open[high] = f.open[high], known
	}
	if len(known) > 0 {
		f.open[high] = append(f.open[high], known...)
	}
	return nil
}
