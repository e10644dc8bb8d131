package parse

import (
	"belvedere/api"
	"belvedere/lex"
)

// reader goes through a command's words, the last one of which is its end. Each rule of the grammar is a method, which
// goes on even behind a fault: the reader stands at the end then, where no word can be taken any more, so all rules end soon.
type reader struct {
	words []api.Word
	at    int
	depth int // of the place
	most  int // how deep a place may be
	err   api.Errno
}

// fault keeps the first fault alone, since it's the one that is told.
func (r *reader) fault(err api.Errno) {
	if r.err == api.OK {
		r.err = err
	}
	r.at = len(r.words) - 1
}

func (r *reader) word() api.Word { return r.words[r.at] }

// is tells whether the next word is this sign or word of the language.
func (r *reader) is(s string) bool {
	w := r.word()
	return (w.Kind == api.WName || w.Kind == api.WSign) && w.S == s
}

// take goes past the next word, if it is s, and tells whether it was.
func (r *reader) take(s string) bool {
	if !r.is(s) {
		return false
	}
	r.at++
	return true
}

// need goes past words that must stand here, one behind the other.
func (r *reader) need(l ...string) {
	for _, s := range l {
		if !r.take(s) {
			r.fault(api.ErrSyntax)
		}
	}
}

func (r *reader) end() {
	if r.word().Kind != api.WEnd {
		r.fault(api.ErrSyntax)
	}
}

func (r *reader) name() string {
	w := r.word()
	if w.Kind != api.WName || !lex.Name(w.S) {
		r.fault(api.ErrSyntax)
		return ""
	}
	r.at++
	return w.S
}

// deeper is called at a bracket, not or - that was taken; what stands in it is one deeper, till depth is set back.
func (r *reader) deeper() {
	if r.depth >= r.most {
		r.fault(api.ErrResource)
	}
	r.depth++
}

// within is called behind what n were read of, of which at most most may be.
func (r *reader) within(n, most int) {
	if n > most {
		r.fault(api.ErrLong)
	}
}

// list reads one or more of what one reads, with commas between.
func list[T any](r *reader, one func() T) []T {
	l := []T{one()}
	for r.take(",") {
		l = append(l, one())
	}
	return l
}
