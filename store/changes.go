package store

import (
	"hachure/api"
	"hachure/file"
	"hachure/grid"
	"hachure/paint"
	"hachure/snap"
)

func create(s *Store, o api.Op) api.Reply {
	g, e := grid.New(o.N, o.M, 0)
	if e != api.Fine {
		return failed(e)
	}
	return failed(s.begin(g))
}

func load(s *Store, o api.Op) api.Reply {
	g, _, e := file.Load(o.Bytes)
	if e != api.Fine {
		return failed(e)
	}
	return failed(s.begin(g))
}

func set(_ *Store, o api.Op) (api.Rect, []int64, api.Code) {
	return api.Rect{X0: o.A.X, Y0: o.A.Y, X1: o.A.X, Y1: o.A.Y}, []int64{o.N}, api.Fine
}

func fill(s *Store, o api.Op) (api.Rect, []int64, api.Code) {
	l, e := s.g.Values(o.R)
	for i := range l {
		l[i] = o.N
	}
	return o.R, l, e
}

func paste(_ *Store, o api.Op) (api.Rect, []int64, api.Code) {
	return o.R, o.Values, api.Fine
}

// add tries it on a grid of the rectangle's cells alone.
func add(s *Store, o api.Op) (api.Rect, []int64, api.Code) {
	l, e := s.g.Values(o.R)
	if e != api.Fine {
		return o.R, nil, e
	}
	part, e := paint.From(o.R.X1-o.R.X0+1, o.R.Y1-o.R.Y0+1, l)
	if e != api.Fine {
		return o.R, nil, e
	}
	if e := paint.Add(part, part.All(), o.N); e != api.Fine {
		return o.R, nil, e
	}
	l, e = part.Values(part.All())
	return o.R, l, e
}

func freeze(s *Store, _ api.Op) api.Reply {
	old, e := snap.Take(s.g, s.stamp)
	if e != api.Fine {
		return failed(e)
	}
	s.old = old
	return failed(api.Fine)
}

func thaw(s *Store, _ api.Op) api.Reply {
	s.old = nil
	return failed(api.Fine)
}
