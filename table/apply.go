package table

import (
	"cmp"
	"slices"

	"belvedere/api"
	"belvedere/bag"
	"belvedere/code"
	"belvedere/heap"
)

// spot is where a row stands, and by which key it is found.
type spot struct {
	key string
	at  api.Id
}

// Apply makes rows go and come, as ch says, on as many pages as there may be; beside an error none of them.
func (t *Table) Apply(ch []api.Many, pages int) api.Errno {
	if t == nil || !bag.Right(ch) {
		return api.ErrArg
	}
	if err := t.refused(ch); err != api.OK {
		return err
	}
	left, gone := t.cut(ch)
	full, came, err := t.put(left, ch, pages)
	if err != api.OK {
		return err
	}
	// The heap is a value, the tree isn't: so it is changed only here, where no error can come any more.
	t.heap = full
	for _, key := range gone {
		t.forget(key)
	}
	for _, s := range came {
		t.learn(s)
	}
	return api.OK
}

// refused tells why ch, a bag, can't be done, however many pages there may be.
func (t *Table) refused(ch []api.Many) api.Errno {
	for _, m := range ch {
		if m.N < 0 {
			if len(t.find(m.Row)) < -m.N {
				return api.ErrNone
			}
			continue
		}
		if err := checkRow(t.schema, m.Row); err != api.OK {
			return err
		}
	}
	if t.tooMany(ch) {
		return api.ErrLong
	}
	if len(t.schema.Key) > 0 && t.clash(ch) {
		return api.ErrKey
	}
	return api.OK
}

// tooMany tells whether there would be more rows than may be. It stops at the first one too many, since the sum of all
// that come may be past the ends.
func (t *Table) tooMany(ch []api.Many) bool {
	n := t.Len()
	for _, m := range ch {
		n += min(m.N, 0)
	}
	for _, m := range ch {
		n += max(m.N, 0)
		if n > api.MaxRows {
			return true
		}
	}
	return false
}

// clash tells whether two rows would have one key.
func (t *Table) clash(ch []api.Many) bool {
	more := map[string]int{}
	for _, m := range ch {
		more[t.key(m.Row)] += m.N
	}
	for key, n := range more {
		ids, _ := t.places.Get(key)
		if len(ids)+n > 1 {
			return true
		}
	}
	return false
}

// cut answers t's pages without the rows that go, all of which are there, and by which keys these were found.
func (t *Table) cut(ch []api.Many) (api.Heap, []string) {
	h := t.heap
	var gone []string
	for _, m := range ch {
		if m.N > 0 {
			continue
		}
		for _, x := range t.find(m.Row)[:-m.N] {
			// No error can come: each place is cut once.
			h, _ = heap.Cut(h, x)
			gone = append(gone, t.key(m.Row))
		}
	}
	return h, gone
}

// put answers h with the rows that come, and where they stand.
func (t *Table) put(h api.Heap, ch []api.Many, pages int) (api.Heap, []spot, api.Errno) {
	var came []spot
	for _, m := range ch {
		if m.N < 0 {
			continue
		}
		data, _ := code.Row(m.Row)
		for range m.N {
			next, x, err := heap.Put(h, data, pages)
			if err != api.OK {
				return api.Heap{}, nil, err
			}
			h = next
			came = append(came, spot{t.key(m.Row), x})
		}
	}
	return h, came, api.OK
}

// find is the places at which row stands, whatever it holds.
func (t *Table) find(row []api.Value) []api.Id {
	data, err := code.Row(row)
	if err != api.OK || len(row) != len(t.schema.Cols) {
		return nil
	}
	ids, has := t.places.Get(t.key(row))
	// Another row may have the same key.
	if !has || t.at(ids[0]) != data {
		return nil
	}
	return ids
}

// key is by what row, of as many values as there are columns, is found. Without a Key that is all that is in it: then
// rows that are the same, and no others, have one.
func (t *Table) key(row []api.Value) string {
	var part []api.Value
	for _, at := range t.schema.Key {
		part = append(part, row[at])
	}
	if len(t.schema.Key) == 0 {
		part = row
	}
	// No error can come: Row had none of row.
	key, _ := code.Key(part)
	return key
}

// forget takes away the first place of a key, which is the one that is cut first.
func (t *Table) forget(key string) {
	ids, _ := t.places.Get(key)
	if len(ids) == 1 {
		t.places.Cut(key)
		return
	}
	t.places.Put(key, ids[1:])
}

// learn adds a place of a key.
func (t *Table) learn(s spot) {
	ids, _ := t.places.Get(s.key)
	i, _ := slices.BinarySearchFunc(ids, s.at, byPlace)
	t.places.Put(s.key, slices.Insert(ids, i, s.at))
}

func byPlace(a, b api.Id) int {
	return cmp.Or(cmp.Compare(a.Page, b.Page), cmp.Compare(a.Slot, b.Slot))
}
