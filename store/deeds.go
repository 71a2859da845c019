package store

import (
	"hachure/api"
	"hachure/past"
	"hachure/patch"
)

// deed is what an op does, or asks.
type deed interface {
	do(s *Store, o api.Op) api.Reply
}

// groundless are deeds that need no grid.
type groundless interface {
	needsNoGrid()
}

// needing are deeds that need something more than a grid.
type needing interface {
	lacks(s *Store) bool
}

// asking is a deed that is done as it is.
type asking func(s *Store, o api.Op) api.Reply

func (ask asking) do(s *Store, o api.Op) api.Reply {
	return ask(s, o)
}

// beginning is such a deed that needs no grid.
type beginning struct{ asking }

func (beginning) needsNoGrid() {}

// recalling is such a deed that needs a snapshot.
type recalling struct{ asking }

func (recalling) lacks(s *Store) bool {
	return s.old == nil
}

// painting tells what values a rectangle is to have; what that changes was done.
type painting func(s *Store, o api.Op) (api.Rect, []int64, api.Code)

func (paint painting) do(s *Store, o api.Op) api.Reply {
	r, l, e := paint(s, o)
	if e != api.Fine {
		return failed(e)
	}
	p, e := patch.Of(s.g, r, l)
	if e != api.Fine {
		return failed(e)
	}
	if e := s.apply(p); e != api.Fine {
		return failed(e)
	}
	return failed(s.past.Did(p))
}

// stepping goes back, or on again, in the past.
type stepping struct {
	take func(*past.Past) (api.Patch, api.Code)
	left func(done, back int) int
}

func (t stepping) lacks(s *Store) bool {
	return t.left(s.past.Len()) == 0
}

func (t stepping) do(s *Store, _ api.Op) api.Reply {
	p, e := t.take(s.past)
	if e != api.Fine {
		return failed(e)
	}
	return failed(s.apply(p))
}

// deedOf is the deed of a kind; false, if there is no such kind.
func deedOf(kind int) (deed, bool) {
	switch kind {
	case api.Create:
		return beginning{create}, true
	case api.Load:
		return beginning{load}, true
	case api.Set:
		return painting(set), true
	case api.Fill:
		return painting(fill), true
	case api.Paste:
		return painting(paste), true
	case api.Add:
		return painting(add), true
	case api.Undo:
		return stepping{(*past.Past).Back, func(done, _ int) int { return done }}, true
	case api.Redo:
		return stepping{(*past.Past).Again, func(_, back int) int { return back }}, true
	case api.Thaw:
		return recalling{thaw}, true
	case api.OldSum:
		return recalling{oldSum}, true
	case api.OldMin:
		return recalling{oldMin}, true
	case api.OldMax:
		return recalling{oldMax}, true
	}
	if ask := askingOf(kind); ask != nil {
		return ask, true
	}
	return nil, false
}

// askingOf is the deed of a kind that needs a grid, and nothing more, and leaves it as it is; nil, if there is none.
func askingOf(kind int) asking {
	switch kind {
	case api.Get:
		return get
	case api.Sum:
		return sum
	case api.Min:
		return least
	case api.Max:
		return most
	case api.Over:
		return high
	case api.Rank:
		return ranked
	case api.Sight:
		return sees
	case api.View:
		return seen
	case api.Regions:
		return hanging
	case api.Sink:
		return drain
	case api.Route:
		return cheapest
	case api.Level:
		return level
	case api.Freeze:
		return freeze
	case api.Save:
		return save
	case api.Draw:
		return draw
	}
	return nil
}
