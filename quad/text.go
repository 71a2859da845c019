package quad

import (
	"strings"

	"hachure/api"
	"hachure/num"
	"hachure/rect"
)

// The signs.
const (
	full   = '#'
	empty  = '.'
	forked = '+'
)

// Print: as a text.
func Print(q *Quad) (string, api.Code) {
	if q.none() {
		return "", api.Nil
	}
	var s strings.Builder
	s.WriteString(num.Print(q.w) + " " + num.Print(q.h) + " ")
	walk(q.root, q.square(), func(n node, _ square) { s.WriteRune(sign(n)) })
	return s.String(), api.Fine
}

func sign(n node) rune {
	switch l := n.(type) {
	case leaf:
		if l {
			return full
		}
		return empty
	}
	return forked
}

// Read: of a text.
func Read(s string) (q *Quad, e api.Code) {
	defer func() {
		if x := recover(); x != nil {
			f, ok := x.(fault)
			if !ok {
				panic(x)
			}
			q, e = nil, f.code
		}
	}()
	w, s := number(s)
	h, s := number(s)
	if e := rect.Within(api.Rect{}, w, h); e != api.Fine {
		panic(fault{e})
	}
	r := reader{w: w, h: h}
	for _, sign := range s {
		r.left = append(r.left, sign)
	}
	root := r.next(rootOf(w, h))
	if len(r.left) > 0 {
		panic(fault{api.Word})
	}
	if r.odd {
		panic(fault{api.Form})
	}
	return &Quad{w, h, root}, api.Fine
}

// fault is thrown where a text is none.
type fault struct{ code api.Code }

// number is the one at the beginning of a text, and what stands behind its blank.
func number(s string) (int64, string) {
	n, end, e := num.Scan(s, 0)
	rest, ok := strings.CutPrefix(s[end:], " ")
	if e != api.Fine || !ok {
		panic(fault{api.Word})
	}
	return n, rest
}

// reader is the signs that are left of a set of that size, and whether those that were read are no quad's.
type reader struct {
	left []rune
	w, h int64
	odd  bool
}

// next is the tree of a square.
func (r *reader) next(s square) node {
	if len(r.left) == 0 {
		panic(fault{api.Word})
	}
	sign := r.left[0]
	r.left = r.left[1:]
	switch {
	case sign == full:
		r.odd = r.odd || s.x+s.side > r.w || s.y+s.side > r.h
		return leaf(true)
	case sign == empty:
		return leaf(false)
	case sign != forked || s.side == 1:
		panic(fault{api.Word})
	}
	var kids [4]node
	for i, quarter := range s.quarters() {
		kids[i] = r.next(quarter)
	}
	n := join(kids)
	if _, ok := n.(leaf); ok {
		r.odd = true
	}
	return n
}
