package heap

import (
	"cmp"
	"maps"
	"math/rand"
	"slices"
	"testing"

	"belvedere/api"
	"belvedere/page"
)

// TestManyCalls holds P6.1 to P6.3 of heaps that many calls have made, against the rows by the places that were told.
func TestManyCalls(t *testing.T) {
	r := rand.New(rand.NewSource(1))
	for range 60 {
		h, rows := api.Heap{}, map[api.Id]string{}
		for range 150 {
			before := deep(h)
			next := step(t, r, h, rows)
			if !same(h, before) {
				t.Fatalf("%v has become %v", before, h)
			}
			h = next
			told(t, h, rows)
		}
	}
}

// step does one call on h, holds what has come of it against what the chapter says, and keeps rows in step.
func step(t *testing.T, r *rand.Rand, h api.Heap, rows map[api.Id]string) api.Heap {
	t.Helper()
	data := string(make([]byte, r.Intn(1+[]int{5, 300, 1016}[r.Intn(3)])))
	most := r.Intn(8)
	x := at(r.Intn(len(h.Pages)+1), r.Intn(4))
	switch r.Intn(5) {
	case 0:
		next, err := Cut(h, x)
		if row, there := rows[x]; there != (err == api.OK) {
			t.Fatalf("Cut(%v): %d, where %q is: %v", x, err, row, there)
		}
		delete(rows, x)
		return next
	case 1, 2:
		return stepSet(t, h, x, data, most, rows)
	}
	next, x, err := Put(h, data, most)
	if err == api.OK {
		fresh(t, x, rows)
		rows[x] = data
	} else if !same(next, h) {
		t.Fatalf("Put(%v) of %d bytes with most %d: %d, and %v", h, len(data), most, err, next)
	}
	where(t, h, data, most, x, err)
	return next
}

func stepSet(t *testing.T, h api.Heap, x api.Id, data string, most int, rows map[api.Id]string) api.Heap {
	t.Helper()
	next, y, err := Set(h, x, data, most)
	if _, there := rows[x]; !there {
		if err != api.ErrNone || y != at(0, 0) {
			t.Fatalf("Set(%v), where no row is: %v, %d", x, y, err)
		}
		return next
	}
	if _, room := page.Set(h.Pages[x.Page], x.Slot, data); room == api.OK {
		if err != api.OK || y != x {
			t.Fatalf("Set(%v) of %d bytes, where there is room: %v, %d", x, len(data), y, err)
		}
		rows[x] = data
		return next
	}
	cut, _ := Cut(h, x)
	where(t, cut, data, most, y, err)
	if err != api.OK {
		if !same(next, h) {
			t.Fatalf("Set(%v, %v) of %d bytes with most %d: %d, and %v", h, x, len(data), most, err, next)
		}
		return next
	}
	delete(rows, x)
	fresh(t, y, rows)
	rows[y] = data
	return next
}

// fresh holds that no row is at x yet.
func fresh(t *testing.T, x api.Id, rows map[api.Id]string) {
	t.Helper()
	if row, there := rows[x]; there {
		t.Fatalf("%v is told, where %q is", x, row)
	}
}

// where holds that data, put in h, was put at x by rights: on the first page on which it fits, else on a new one, if
// there may be one more.
func where(t *testing.T, h api.Heap, data string, most int, x api.Id, err api.Errno) {
	t.Helper()
	i := slices.IndexFunc(h.Pages, func(p api.Page) bool { return page.Fits(p, len(data)) })
	want := api.OK
	if i < 0 {
		i = len(h.Pages)
		if i >= most {
			i, want = 0, api.ErrFull
		}
	}
	if x.Page != i || err != want {
		t.Fatalf("%d bytes with most %d: %v, %d, want page %d, %d", len(data), most, x, err, i, want)
	}
}

// told holds that h may be, and tells these rows in the order of their places.
func told(t *testing.T, h api.Heap, rows map[api.Id]string) {
	t.Helper()
	if !Right(h) {
		t.Fatalf("%v may not be", h)
	}
	ids := slices.SortedFunc(maps.Keys(rows), func(a, b api.Id) int {
		return cmp.Or(cmp.Compare(a.Page, b.Page), cmp.Compare(a.Slot, b.Slot))
	})
	got, data := List(h)
	if !slices.Equal(got, ids) || len(data) != len(ids) {
		t.Fatalf("%v: %v are told, want %v", h, got, ids)
	}
	for i, x := range ids {
		if row, err := Get(h, x); row != rows[x] || data[i] != rows[x] || err != api.OK {
			t.Fatalf("at %v: %q and %q, %d, want %q", x, row, data[i], err, rows[x])
		}
	}
}
