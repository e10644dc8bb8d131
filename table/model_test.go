package table

import (
	"slices"

	"belvedere/api"
	"belvedere/bag"
	"belvedere/code"
	"belvedere/heap"
	"belvedere/lex"
	"belvedere/value"
)

// A model is a table by the chapter's words alone: its pages, and all else found by going over all rows.
type model struct {
	s api.Schema
	h api.Heap
}

// modelCheck is P19.1.
func modelCheck(s api.Schema) api.Errno {
	if !lex.Name(s.Name) {
		return api.ErrArg
	}
	if n := len(s.Cols); n == 0 || n > 8 || len(s.Key) > 8 {
		return api.ErrLong
	}
	names := map[string]int{}
	for _, c := range s.Cols {
		switch {
		case !lex.Name(c.Name):
			return api.ErrArg
		case c.Type != api.TInt && c.Type != api.TBool && c.Type != api.TText:
			return api.ErrType
		case names[c.Name] > 0:
			return api.ErrTwice
		}
		names[c.Name]++
	}
	ahead := map[int]int{}
	for _, at := range s.Key {
		switch {
		case at < 0 || at > len(s.Cols)-1:
			return api.ErrArg
		case ahead[at] > 0:
			return api.ErrTwice
		}
		ahead[at]++
	}
	return api.OK
}

// rows are all rows, by their places.
func (m model) rows() [][]api.Value {
	var rows [][]api.Value
	_, all := heap.List(m.h)
	for _, data := range all {
		r, _ := code.Read(data)
		rows = append(rows, r)
	}
	return rows
}

// often is how often a row is among rows.
func often(rows [][]api.Value, r []api.Value) int {
	n := 0
	for _, o := range rows {
		if value.Rows(o, r) == 0 {
			n++
		}
	}
	return n
}

// find is P19.3 of Find: all rows are asked.
func (m model) find(k []api.Value) ([]api.Value, bool) {
	for _, r := range m.rows() {
		if len(m.s.Key) > 0 && value.Rows(keyOf(m.s, r), k) == 0 {
			return r, true
		}
	}
	return nil, false
}

// fault is what P19.2 says of a row that comes.
func (m model) fault(r []api.Value) api.Errno {
	if len(r) != len(m.s.Cols) {
		return api.ErrType
	}
	null := false
	for i, v := range r {
		if err := value.Check(v); err != api.OK {
			return err
		}
		if v != nothing && v.Kind != m.s.Cols[i].Type {
			return api.ErrType
		}
		null = null || v == nothing && (m.s.Cols[i].Must || slices.Index(m.s.Key, i) >= 0)
	}
	if null {
		return api.ErrNull
	}
	return api.OK
}

// apply is P19.2: the pages that come of it, or the first error.
func (m model) apply(ch []api.Many, pages int) (api.Heap, api.Errno) {
	if !bag.Right(ch) {
		return m.h, api.ErrArg
	}
	rows := m.rows()
	for _, one := range ch {
		if one.N < 0 && often(rows, one.Row)+one.N < 0 {
			return m.h, api.ErrNone
		}
		if err := m.fault(one.Row); one.N > 0 && err != api.OK {
			return m.h, err
		}
	}
	if len(rows)-bag.Count(bag.Turn(ch))+bag.Count(ch) > 2000 {
		return m.h, api.ErrLong
	}
	if m.clashes(bag.Rows(bag.Add(bag.List(rows), ch))) {
		return m.h, api.ErrKey
	}
	return m.moved(ch, pages)
}

// clashes tells whether two of rows have one key.
func (m model) clashes(rows [][]api.Value) bool {
	var keys [][]api.Value
	for _, r := range rows {
		keys = append(keys, keyOf(m.s, r))
	}
	return len(m.s.Key) > 0 && len(bag.List(keys)) < len(keys)
}

// moved is what comes of changes that have no fault, if there is room.
func (m model) moved(ch []api.Many, pages int) (api.Heap, api.Errno) {
	h := m.h
	for _, r := range bag.Rows(bag.Turn(ch)) {
		ids, all := heap.List(h)
		data, _ := code.Row(r)
		h, _ = heap.Cut(h, ids[slices.Index(all, data)])
	}
	for _, r := range bag.Rows(ch) {
		data, _ := code.Row(r)
		next, _, err := heap.Put(h, data, pages)
		if err != api.OK {
			return m.h, err
		}
		h = next
	}
	return h, api.OK
}
