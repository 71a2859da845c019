package script

import (
	"strings"

	"hachure/api"
	"hachure/num"
	"hachure/tint"
)

// none is the word of a list without items.
const none = "-"

const digits = "0123456789abcdef"

// words is a line that is being told.
type words struct{ text strings.Builder }

func (w *words) line() string {
	return w.text.String()
}

func (w *words) word(s string) {
	if w.text.Len() > 0 {
		w.text.WriteByte(' ')
	}
	w.text.WriteString(s)
}

func (w *words) numbers(l ...int64) {
	for _, n := range l {
		w.word(num.Print(n))
	}
}

func (w *words) cells(l []api.Cell) {
	for _, c := range l {
		w.word(num.Print(c.X) + "," + num.Print(c.Y))
	}
}

func (w *words) list(l []int64) {
	if len(l) == 0 {
		w.word(none)
		return
	}
	for i, n := range l {
		if i == 0 {
			w.numbers(n)
			continue
		}
		w.text.WriteByte(',')
		w.text.WriteString(num.Print(n))
	}
}

func (w *words) bytes(l []byte) {
	if len(l) == 0 {
		w.word(none)
		return
	}
	w.word("")
	for _, b := range l {
		w.text.WriteByte(digits[b>>4])
		w.text.WriteByte(digits[b&15])
	}
}

func (w *words) each(l ...*int64) {
	for _, n := range l {
		w.numbers(*n)
	}
}

func (w *words) values(l *[]int64) { w.list(*l) }

func (w *words) octets(l *[]byte) { w.bytes(*l) }

func (w *words) legend(l *[]api.Band) {
	s, _ := tint.Print(*l)
	w.word(s)
}

// fault is thrown where a text is no line's.
type fault struct{ code api.Code }

// reader is the words of a line that are left.
type reader struct{ left []string }

// next is the next word, or throws.
func (r *reader) next() string {
	if len(r.left) == 0 {
		panic(fault{api.Word})
	}
	first := r.left[0]
	r.left = r.left[1:]
	return first
}

func (r *reader) each(l ...*int64) {
	for _, to := range l {
		n, e := num.Read(r.next())
		if e != api.Fine {
			panic(fault{api.Word})
		}
		*to = n
	}
}

func (r *reader) values(to *[]int64) {
	s := r.next()
	if s == none {
		return
	}
	for at := 0; ; at++ {
		n, end, e := num.Scan(s, at)
		if e != api.Fine {
			panic(fault{api.Word})
		}
		*to = append(*to, n)
		if end == len(s) {
			return
		}
		if s[end] != ',' {
			panic(fault{api.Word})
		}
		at = end
	}
}

func (r *reader) octets(to *[]byte) {
	s := r.next()
	if s == none {
		return
	}
	if s == "" {
		panic(fault{api.Word})
	}
	high, half := 0, false
	for _, c := range s {
		d := strings.IndexRune(digits, c)
		if d < 0 {
			panic(fault{api.Word})
		}
		if half {
			*to = append(*to, byte(high<<4|d))
		}
		high, half = d, !half
	}
	if half {
		panic(fault{api.Word})
	}
}

func (r *reader) legend(to *[]api.Band) {
	l, e := tint.Read(r.next())
	if e != api.Fine {
		panic(fault{api.Word})
	}
	*to = l
}
