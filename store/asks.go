package store

import (
	"slices"

	"hachure/api"
	"hachure/chart"
	"hachure/down"
	"hachure/file"
	"hachure/over"
	"hachure/probe"
	"hachure/rank"
	"hachure/regions"
	"hachure/route"
	"hachure/sink"
	"hachure/skip"
	"hachure/view"
)

// byBest is the number by which a file is saved by the best predictors.
const byBest = api.Plane + 1

func get(s *Store, o api.Op) api.Reply {
	v, e := s.g.At(o.A)
	return api.Reply{Code: e, N: v}
}

func sum(s *Store, o api.Op) api.Reply {
	n, _, e := s.live.Sum(s.old, s.stamp, o.R)
	return api.Reply{Code: e, N: n}
}

func least(s *Store, o api.Op) api.Reply {
	v, at, e := probe.Least(s.live.Pyr(), o.R)
	return api.Reply{Code: e, N: v, At: at}
}

func most(s *Store, o api.Op) api.Reply {
	v, at, e := probe.Most(s.live.Pyr(), o.R)
	return api.Reply{Code: e, N: v, At: at}
}

func high(s *Store, o api.Op) api.Reply {
	n, e := over.Count(s.live.Pyr(), o.R, o.N)
	return api.Reply{Code: e, N: n}
}

func ranked(s *Store, o api.Op) api.Reply {
	v, e := rank.Kth(s.live.Pyr(), o.R, o.N)
	return api.Reply{Code: e, N: v}
}

func sees(s *Store, o api.Op) api.Reply {
	yes, at, e := skip.Clear(s.live.Pyr(), o.A, o.N, o.B, o.M)
	return api.Reply{Code: e, Yes: yes, At: at}
}

func seen(s *Store, o api.Op) api.Reply {
	cells, e := view.From(s.live.Pyr(), o.A, o.N, o.M, o.B.X)
	return api.Reply{Code: e, N: int64(len(cells)), Cells: cells}
}

func hanging(s *Store, o api.Op) api.Reply {
	labels, parts, e := regions.Of(s.g, o.N)
	return api.Reply{Code: e, N: int64(len(parts)), Values: labels, Parts: parts}
}

func drain(s *Store, o api.Op) api.Reply {
	way, e := sink.Way(s.g, o.A)
	if e != api.Fine {
		return failed(e)
	}
	return api.Reply{Cells: way, At: way[len(way)-1]}
}

func cheapest(s *Store, o api.Op) api.Reply {
	cost, cells, e := route.Find(s.g, o.A, o.B)
	return api.Reply{Code: e, N: cost, Cells: cells}
}

func level(s *Store, o api.Op) api.Reply {
	g, e := down.Level(s.g, int(o.N), int(o.M))
	if e != api.Fine {
		return failed(e)
	}
	values, e := g.Values(g.All())
	w, h := g.Size()
	return api.Reply{Code: e, Values: values, At: api.Cell{X: w, Y: h}}
}

func oldSum(s *Store, o api.Op) api.Reply {
	n, e := s.old.Sum(o.R)
	return api.Reply{Code: e, N: n}
}

func oldMin(s *Store, o api.Op) api.Reply {
	all, e := s.old.Range(o.R)
	return api.Reply{Code: e, N: all.Min}
}

func oldMax(s *Store, o api.Op) api.Reply {
	all, e := s.old.Range(o.R)
	return api.Reply{Code: e, N: all.Max}
}

func save(s *Store, o api.Op) api.Reply {
	if o.N < api.Plain || o.N > byBest {
		return failed(api.Arg)
	}
	kinds := slices.Repeat([]int{int(o.N)}, len(s.g.Tiles()))
	if o.N == byBest {
		best, e := file.Best(s.g)
		if e != api.Fine {
			return failed(e)
		}
		kinds = best
	}
	b, e := file.Save(s.g, kinds)
	return api.Reply{Code: e, Bytes: b}
}

func draw(s *Store, o api.Op) api.Reply {
	lines, e := chart.Draw(s.g, o.R, o.Bands)
	return api.Reply{Code: e, Lines: lines}
}
