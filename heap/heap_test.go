package heap

import (
	"math"
	"slices"
	"strings"
	"testing"

	"belvedere/api"
	"belvedere/page"
)

// of is the page with these rows, each in the slot of its place; "-" is a slot that isn't Used.
func of(rows ...string) api.Page {
	var p api.Page
	for _, s := range rows {
		if s == "-" {
			p.Slots = append(p.Slots, api.Slot{})
		} else {
			p.Slots = append(p.Slots, api.Slot{Used: true, Data: s})
		}
	}
	return p
}

func heap(l ...api.Page) api.Heap { return api.Heap{Pages: l} }

func at(page, slot int) api.Id { return api.Id{Page: page, Slot: slot} }

// long is a row of n bytes.
func long(n int) string { return strings.Repeat("x", n) }

// times is n pages like p.
func times(n int, p api.Page) []api.Page { return slices.Repeat([]api.Page{p}, n) }

// changed is a heap of n full pages, but page i is p.
func changed(n, i int, p api.Page) api.Heap {
	h := heap(times(n, full)...)
	h.Pages[i] = p
	return h
}

var (
	none = api.Page{}
	full = of(long(1016))
	tiny = of("a")
)

func samePage(a, b api.Page) bool { return slices.Equal(a.Slots, b.Slots) }

func same(a, b api.Heap) bool { return slices.EqualFunc(a.Pages, b.Pages, samePage) }

// deep is h in memory of its own, its pages too.
func deep(h api.Heap) api.Heap {
	var c api.Heap
	for _, p := range h.Pages {
		c.Pages = append(c.Pages, api.Page{Slots: slices.Clone(p.Slots)})
	}
	return c
}

// may are heaps that may be.
func may() []api.Heap {
	return []api.Heap{
		{},
		{Pages: []api.Page{}},
		heap(tiny),
		heap(of("")),
		heap(of("-", "a")),
		heap(full),
		heap(none, tiny),
		heap(api.Page{Slots: []api.Slot{}}, tiny),
		heap(none, none, none, of("-", "")),
		heap(tiny, none, of("b", "-", "c"), none, none, full),
		heap(times(api.MaxPages, tiny)...),
		heap(append(times(api.MaxPages-1, none), tiny)...),
	}
}

// mayNot are heaps that may not be.
func mayNot() []api.Heap {
	return []api.Heap{
		heap(none),
		heap(api.Page{Slots: []api.Slot{}}),
		heap(none, none),
		heap(tiny, none),
		heap(tiny, none, none),
		heap(of("a", "-")),
		heap(of("-")),
		heap(of(long(1017))),
		heap(of(long(1016), "")),
		heap(api.Page{Slots: []api.Slot{{Data: "a"}, {Used: true}}}),
		heap(of("a", "-"), tiny, tiny),
		heap(tiny, of("a", "-"), tiny),
		heap(tiny, tiny, of("a", "-")),
		heap(tiny, of(long(1017)), tiny),
		heap(tiny, tiny, of(slices.Repeat([]string{""}, 256)...)),
		heap(times(api.MaxPages+1, tiny)...),
		heap(append(times(api.MaxPages, none), tiny)...),
		heap(times(api.MaxPages, none)...),
		heap(append(times(api.MaxPages, tiny), none)...),
		changed(api.MaxPages, 2000, of("-")),
	}
}

// places are some that are and some that are not.
func places() []api.Id {
	return []api.Id{at(0, 0), at(1, 0), at(0, 1), at(5, 5), at(-1, 0), at(0, -1),
		at(math.MinInt, math.MinInt), at(math.MaxInt, math.MaxInt)}
}

// TestRight holds P6.1, of Right.
func TestRight(t *testing.T) {
	for _, h := range may() {
		if !Right(h) {
			t.Errorf("%.80v may be", h)
		}
	}
	for _, h := range mayNot() {
		if Right(h) {
			t.Errorf("%.80v may not be", h)
		}
	}
}

// TestMayNot holds P6.1: ErrArg comes ahead of all else, the heap stays as it is, and List and All tell nothing.
func TestMayNot(t *testing.T) {
	for _, h := range mayNot() {
		for _, data := range []string{"", "b", long(1016), long(1017)} {
			for _, most := range []int{math.MinInt, -1, 0, 1, api.MaxPages, math.MaxInt} {
				if got, x, err := Put(h, data, most); !same(got, h) || x != at(0, 0) || err != api.ErrArg {
					t.Errorf("Put(%.80v, %.80v, %d) = %.80v, %v, %d", h, data, most, got, x, err)
				}
			}
			for _, x := range places() {
				if got, y, err := Set(h, x, data, 1); !same(got, h) || y != at(0, 0) || err != api.ErrArg {
					t.Errorf("Set(%.80v, %v, %.80v) = %.80v, %v, %d", h, x, data, got, y, err)
				}
			}
		}
		for _, x := range places() {
			if got, err := Get(h, x); got != "" || err != api.ErrArg {
				t.Errorf("Get(%.80v, %v) = %.80v, %d", h, x, got, err)
			}
			if got, err := Cut(h, x); !same(got, h) || err != api.ErrArg {
				t.Errorf("Cut(%.80v, %v) = %.80v, %d", h, x, got, err)
			}
		}
		if ids, rows := List(h); len(ids) > 0 || len(rows) > 0 {
			t.Errorf("List(%.80v) = %.80v, %.80v", h, ids, rows)
		}
		for x, data := range All(h) {
			t.Errorf("All(%.80v) tells %v, %.80v", h, x, data)
		}
	}
}

// TestPut holds P6.1, of Put.
func TestPut(t *testing.T) {
	for _, c := range []struct {
		h    api.Heap
		data string
		most int
		want api.Heap
		x    api.Id
		err  api.Errno
	}{
		// a first page
		{api.Heap{}, "a", 1, heap(tiny), at(0, 0), api.OK},
		{api.Heap{}, "", 1, heap(of("")), at(0, 0), api.OK},
		{api.Heap{}, "a", math.MaxInt, heap(tiny), at(0, 0), api.OK},
		{api.Heap{}, "a", 0, api.Heap{}, at(0, 0), api.ErrFull},
		{api.Heap{}, "a", -1, api.Heap{}, at(0, 0), api.ErrFull},
		{api.Heap{}, "", math.MinInt, api.Heap{}, at(0, 0), api.ErrFull},
		// the longest row, and one byte more, ahead of ErrFull
		{api.Heap{}, long(1016), 1, heap(full), at(0, 0), api.OK},
		{api.Heap{}, long(1016), 0, api.Heap{}, at(0, 0), api.ErrFull},
		{api.Heap{}, long(1017), 1, api.Heap{}, at(0, 0), api.ErrLong},
		{api.Heap{}, long(1017), 0, api.Heap{}, at(0, 0), api.ErrLong},
		{api.Heap{}, long(70000), -1, api.Heap{}, at(0, 0), api.ErrLong},
		{heap(full), long(1017), 2, heap(full), at(0, 0), api.ErrLong},
		// the last room of a page, and one byte more
		{heap(tiny), "b", 1, heap(of("a", "b")), at(0, 1), api.OK},
		{heap(tiny), long(1011), 1, heap(of("a", long(1011))), at(0, 1), api.OK},
		{heap(tiny), long(1012), 1, heap(tiny), at(0, 0), api.ErrFull},
		{heap(tiny), long(1012), 2, heap(tiny, of(long(1012))), at(1, 0), api.OK},
		{heap(of(long(1013))), "", 2, heap(of(long(1013)), of("")), at(1, 0), api.OK},
		{heap(of(long(1012))), "", 2, heap(of(long(1012), "")), at(0, 1), api.OK},
		// the first page that has room, in its first slot that isn't Used
		{heap(of("-", "a"), tiny), "b", 9, heap(of("b", "a"), tiny), at(0, 0), api.OK},
		{heap(of("a", "-", "b", "-", "c")), "d", 9, heap(of("a", "d", "b", "-", "c")), at(0, 1), api.OK},
		{heap(full, tiny, tiny), "b", 9, heap(full, of("a", "b"), tiny), at(1, 1), api.OK},
		{heap(full, full, of("-", "a"), tiny), "b", 9, heap(full, full, of("b", "a"), tiny), at(2, 0), api.OK},
		{heap(tiny, full, tiny, of("-", "b")), long(1012), 9,
			heap(tiny, full, tiny, of("-", "b"), of(long(1012))), at(4, 0), api.OK},
		{heap(tiny, of("-", "b"), full), long(1011), 9, heap(of("a", long(1011)), of("-", "b"), full), at(0, 1), api.OK},
		{heap(of("ab"), of("-", "b"), full), long(1011), 9, heap(of("ab"), of(long(1011), "b"), full), at(1, 0), api.OK},
		// a page without a slot
		{heap(none, full), long(1016), 9, heap(full, full), at(0, 0), api.OK},
		{heap(full, none, none, tiny), "b", 9, heap(full, of("b"), none, tiny), at(1, 0), api.OK},
		{heap(tiny, none, tiny), "b", 9, heap(of("a", "b"), none, tiny), at(0, 1), api.OK},
		{heap(tiny, none, tiny), long(1016), 9, heap(tiny, full, tiny), at(1, 0), api.OK},
		// most counts only for a new page
		{heap(full), "a", 2, heap(full, tiny), at(1, 0), api.OK},
		{heap(full), "a", 1, heap(full), at(0, 0), api.ErrFull},
		{heap(full), "a", 0, heap(full), at(0, 0), api.ErrFull},
		{heap(full), "a", -1, heap(full), at(0, 0), api.ErrFull},
		{heap(full, full, full), "a", 4, heap(full, full, full, tiny), at(3, 0), api.OK},
		{heap(full, full, full), "a", 3, heap(full, full, full), at(0, 0), api.ErrFull},
		{heap(full, full, full), "a", 2, heap(full, full, full), at(0, 0), api.ErrFull},
		{heap(full, full, full), "a", math.MinInt, heap(full, full, full), at(0, 0), api.ErrFull},
		{heap(full, full, tiny), "b", 3, heap(full, full, of("a", "b")), at(2, 1), api.OK},
		{heap(full, full, tiny), "b", 0, heap(full, full, of("a", "b")), at(2, 1), api.OK},
		{heap(full, full, tiny), "b", math.MinInt, heap(full, full, of("a", "b")), at(2, 1), api.OK},
		// MaxPages pages, and one fewer
		{heap(times(4095, full)...), "a", 4096, changed(4096, 4095, tiny), at(4095, 0), api.OK},
		{heap(times(4095, full)...), "a", math.MaxInt, changed(4096, 4095, tiny), at(4095, 0), api.OK},
		{heap(times(4095, full)...), "a", 4095, heap(times(4095, full)...), at(0, 0), api.ErrFull},
		{heap(times(4096, full)...), "a", 4096, heap(times(4096, full)...), at(0, 0), api.ErrFull},
		{heap(times(4096, full)...), "a", 4097, heap(times(4096, full)...), at(0, 0), api.ErrFull},
		{heap(times(4096, full)...), "", math.MaxInt, heap(times(4096, full)...), at(0, 0), api.ErrFull},
		{heap(times(4096, full)...), long(1017), 4097, heap(times(4096, full)...), at(0, 0), api.ErrLong},
		{changed(4096, 3000, tiny), "b", 4096, changed(4096, 3000, of("a", "b")), at(3000, 1), api.OK},
		{changed(4096, 4095, tiny), "b", 1, changed(4096, 4095, of("a", "b")), at(4095, 1), api.OK},
	} {
		got, x, err := Put(c.h, c.data, c.most)
		if !same(got, c.want) || x != c.x || err != c.err {
			t.Errorf("Put(%.80v, %.80v, %d) = %.80v, %v, %d, want %.80v, %v, %d",
				c.h, c.data, c.most, got, x, err, c.want, c.x, c.err)
		}
	}
}

// TestGet holds P6.1, of Get.
func TestGet(t *testing.T) {
	h := heap(of("a", "-", ""), none, of("-", "b"), full)
	for _, c := range []struct {
		h    api.Heap
		x    api.Id
		want string
		err  api.Errno
	}{
		{h, at(0, 0), "a", api.OK},
		{h, at(0, 1), "", api.ErrNone},
		{h, at(0, 2), "", api.OK},
		{h, at(0, 3), "", api.ErrNone},
		{h, at(0, -1), "", api.ErrNone},
		{h, at(0, math.MaxInt), "", api.ErrNone},
		{h, at(0, math.MinInt), "", api.ErrNone},
		{h, at(1, 0), "", api.ErrNone},
		{h, at(1, -1), "", api.ErrNone},
		{h, at(2, 0), "", api.ErrNone},
		{h, at(2, 1), "b", api.OK},
		{h, at(3, 0), long(1016), api.OK},
		{h, at(3, 1), "", api.ErrNone},
		{h, at(4, 0), "", api.ErrNone},
		{h, at(-1, 0), "", api.ErrNone},
		{h, at(math.MaxInt, 0), "", api.ErrNone},
		{h, at(math.MinInt, 0), "", api.ErrNone},
		{api.Heap{}, at(0, 0), "", api.ErrNone},
		{heap(times(4096, tiny)...), at(4095, 0), "a", api.OK},
		{heap(times(4096, tiny)...), at(4096, 0), "", api.ErrNone},
	} {
		if got, err := Get(c.h, c.x); got != c.want || err != c.err {
			t.Errorf("Get(%.80v, %v) = %.80v, %d, want %.80v, %d", c.h, c.x, got, err, c.want, c.err)
		}
	}
}

// TestCut holds P6.2, of Cut.
func TestCut(t *testing.T) {
	for _, c := range []struct {
		h    api.Heap
		x    api.Id
		want api.Heap
		err  api.Errno
	}{
		{heap(of("a", "b", "c")), at(0, 1), heap(of("a", "-", "c")), api.OK},
		{heap(of("a", "b", "c")), at(0, 2), heap(of("a", "b")), api.OK},
		{heap(of("a", "-", "c")), at(0, 2), heap(tiny), api.OK},
		{heap(of("a", "")), at(0, 1), heap(tiny), api.OK},
		{heap(tiny), at(0, 0), api.Heap{}, api.OK},
		{heap(of("-", "-", "")), at(0, 2), api.Heap{}, api.OK},
		// the last row of a page in the midst: the page stays
		{heap(tiny, tiny, tiny), at(0, 0), heap(none, tiny, tiny), api.OK},
		{heap(tiny, of("-", "b"), tiny), at(1, 1), heap(tiny, none, tiny), api.OK},
		{heap(none, tiny, tiny), at(1, 0), heap(none, none, tiny), api.OK},
		// the last row of the last page: it goes, and so do those ahead of it that have no slot
		{heap(tiny, tiny), at(1, 0), heap(tiny), api.OK},
		{heap(tiny, none, tiny), at(2, 0), heap(tiny), api.OK},
		{heap(tiny, none, tiny, none, none, of("-", "b")), at(5, 1), heap(tiny, none, tiny), api.OK},
		{heap(tiny, none, tiny, none, of("a", "b")), at(4, 1), heap(tiny, none, tiny, none, tiny), api.OK},
		{heap(none, none, tiny), at(2, 0), api.Heap{}, api.OK},
		{heap(append(times(4095, none), tiny)...), at(4095, 0), api.Heap{}, api.OK},
		{heap(times(4096, tiny)...), at(4095, 0), heap(times(4095, tiny)...), api.OK},
		// no such row
		{heap(of("a", "-", "c")), at(0, 1), heap(of("a", "-", "c")), api.ErrNone},
		{heap(of("a", "-", "c")), at(0, 3), heap(of("a", "-", "c")), api.ErrNone},
		{heap(of("a", "-", "c")), at(0, -1), heap(of("a", "-", "c")), api.ErrNone},
		{heap(tiny, none, tiny), at(1, 0), heap(tiny, none, tiny), api.ErrNone},
		{heap(tiny, none, tiny), at(3, 0), heap(tiny, none, tiny), api.ErrNone},
		{heap(tiny, none, tiny), at(-1, 0), heap(tiny, none, tiny), api.ErrNone},
		{heap(tiny), at(math.MaxInt, 0), heap(tiny), api.ErrNone},
		{heap(tiny), at(math.MinInt, 0), heap(tiny), api.ErrNone},
		{heap(tiny), at(0, math.MinInt), heap(tiny), api.ErrNone},
		{api.Heap{}, at(0, 0), api.Heap{}, api.ErrNone},
		{heap(times(4096, tiny)...), at(4096, 0), heap(times(4096, tiny)...), api.ErrNone},
	} {
		if got, err := Cut(c.h, c.x); !same(got, c.want) || err != c.err {
			t.Errorf("Cut(%.80v, %v) = %.80v, %d, want %.80v, %d", c.h, c.x, got, err, c.want, c.err)
		}
	}
}

// set is a call of Set, and what it answers.
type set struct {
	h    api.Heap
	x    api.Id
	data string
	most int
	want api.Heap
	y    api.Id
	err  api.Errno
}

func (c set) holds(t *testing.T) {
	t.Helper()
	got, y, err := Set(c.h, c.x, c.data, c.most)
	if !same(got, c.want) || y != c.y || err != c.err {
		t.Errorf("Set(%.80v, %v, %.80v, %d) = %.80v, %v, %d, want %.80v, %v, %d",
			c.h, c.x, c.data, c.most, got, y, err, c.want, c.y, c.err)
	}
}

// TestSetThere holds P6.2, of Set where there is room: most doesn't count there.
func TestSetThere(t *testing.T) {
	for _, c := range []set{
		{heap(of("a", "b")), at(0, 1), "xyz", 1, heap(of("a", "xyz")), at(0, 1), api.OK},
		{heap(of("a", "b")), at(0, 0), "", 1, heap(of("", "b")), at(0, 0), api.OK},
		{heap(of("", "b")), at(0, 0), "a", 1, heap(of("a", "b")), at(0, 0), api.OK},
		{heap(of("a", "b")), at(0, 0), "a", 1, heap(of("a", "b")), at(0, 0), api.OK},
		{heap(of("-", "b")), at(0, 1), "c", 1, heap(of("-", "c")), at(0, 1), api.OK},
		{heap(tiny, none, of("b")), at(2, 0), "c", 3, heap(tiny, none, of("c")), at(2, 0), api.OK},
		{heap(tiny, of("b"), tiny), at(1, 0), long(1016), 3, heap(tiny, full, tiny), at(1, 0), api.OK},
		{heap(tiny, full), at(1, 0), "", 3, heap(tiny, of("")), at(1, 0), api.OK},
		{heap(tiny), at(0, 0), long(1016), 1, heap(full), at(0, 0), api.OK},
		{heap(tiny), at(0, 0), long(1016), 0, heap(full), at(0, 0), api.OK},
		{heap(tiny, tiny), at(1, 0), "b", math.MinInt, heap(tiny, of("b")), at(1, 0), api.OK},
		{heap(of("a", "b")), at(0, 1), long(1011), 0, heap(of("a", long(1011))), at(0, 1), api.OK},
		{heap(times(4096, tiny)...), at(4095, 0), long(1016), 1,
			heap(append(times(4095, tiny), full)...), at(4095, 0), api.OK},
	} {
		c.holds(t)
	}
}

// TestSetMoves holds P6.2, of Set where the row must move.
func TestSetMoves(t *testing.T) {
	high := of(long(500), long(500))
	for _, c := range []set{
		// to an earlier page, whatever most is
		{heap(tiny, high), at(1, 1), long(600), 2, heap(of("a", long(600)), of(long(500))), at(0, 1), api.OK},
		{heap(tiny, high), at(1, 1), long(600), math.MinInt, heap(of("a", long(600)), of(long(500))), at(0, 1), api.OK},
		{heap(tiny, high), at(1, 0), long(600), 2, heap(of("a", long(600)), of("-", long(500))), at(0, 1), api.OK},
		{heap(full, none, high), at(2, 1), long(600), 3, heap(full, of(long(600)), of(long(500))), at(1, 0), api.OK},
		{heap(full, of("-", "b"), high), at(2, 0), long(600), 3,
			heap(full, of(long(600), "b"), of("-", long(500))), at(1, 0), api.OK},
		// to a later one
		{heap(high, tiny, tiny), at(0, 1), long(600), 3, heap(of(long(500)), of("a", long(600)), tiny), at(1, 1), api.OK},
		{heap(high, high, none, tiny), at(0, 0), long(600), 4,
			heap(of("-", long(500)), high, of(long(600)), tiny), at(2, 0), api.OK},
		// to a new one
		{heap(of("a", "b")), at(0, 1), long(1012), 2, heap(tiny, of(long(1012))), at(1, 0), api.OK},
		{heap(of("a", "b")), at(0, 0), long(1016), 2, heap(of("-", "b"), full), at(1, 0), api.OK},
		{heap(high, full), at(0, 0), long(1016), 3, heap(of("-", long(500)), full, full), at(2, 0), api.OK},
		// on its own page, whose slots at the end have gone, or whose last row it was
		{heap(of("-", "a")), at(0, 1), long(1016), 1, heap(full), at(0, 0), api.OK},
		{heap(tiny, of("-", "-", "b")), at(1, 2), long(1012), 2, heap(tiny, of(long(1012))), at(1, 0), api.OK},
		{heap(full, of("-", "a"), tiny), at(1, 1), long(1016), 3, heap(full, full, tiny), at(1, 0), api.OK},
		{heap(of(long(500), "-", "-", long(496))), at(0, 3), long(505), 1, heap(of(long(500), long(505))), at(0, 1), api.OK},
		// to an earlier page, when the last one goes
		{heap(full, none, of("-", "b")), at(2, 1), long(1016), 2, heap(full, full), at(1, 0), api.OK},
		{heap(none, none, of("-", "b")), at(2, 1), long(1016), 1, heap(full), at(0, 0), api.OK},
		{heap(tiny, of("-", "-", "b")), at(1, 2), long(1011), 1, heap(of("a", long(1011))), at(0, 1), api.OK},
		// MaxPages pages
		{changed(4096, 7, of("a", "b")), at(7, 1), long(1012), 4096, changed(4096, 7, of("a", "b")), at(0, 0), api.ErrFull},
		{changed(4095, 7, of("a", "b")), at(7, 1), long(1012), 4096,
			heap(append(changed(4095, 7, tiny).Pages, of(long(1012)))...), at(4095, 0), api.OK},
		{changed(4096, 4095, of("-", "b")), at(4095, 1), long(1016), 4096, heap(times(4096, full)...), at(4095, 0), api.OK},
	} {
		c.holds(t)
	}
}

// TestSetNot holds P6.2, of Set beside an error: the heap is as it was, the row not cut.
func TestSetNot(t *testing.T) {
	h := heap(of("a", "-", "b"), none, full)
	two := heap(of("a", "b"))
	last := heap(full, of("-", "b"))
	for _, c := range []set{
		// no room
		{two, at(0, 1), long(1012), 1, two, at(0, 0), api.ErrFull},
		{two, at(0, 1), long(1012), 0, two, at(0, 0), api.ErrFull},
		{two, at(0, 1), long(1012), -1, two, at(0, 0), api.ErrFull},
		{two, at(0, 1), long(1012), math.MinInt, two, at(0, 0), api.ErrFull},
		{last, at(1, 1), long(1016), 1, last, at(0, 0), api.ErrFull},
		{last, at(1, 1), long(1013), 0, last, at(0, 0), api.ErrFull},
		{heap(of("-", "b")), at(0, 1), long(1016), 0, heap(of("-", "b")), at(0, 0), api.ErrFull},
		// too long, but behind Get's errors
		{h, at(0, 0), long(1017), 9, h, at(0, 0), api.ErrLong},
		{h, at(2, 0), long(70000), -1, h, at(0, 0), api.ErrLong},
		{h, at(0, 1), long(1017), 9, h, at(0, 0), api.ErrNone},
		{h, at(9, 0), long(1017), 9, h, at(0, 0), api.ErrNone},
		// no such row
		{h, at(0, 1), "c", 9, h, at(0, 0), api.ErrNone},
		{h, at(0, 3), "c", 9, h, at(0, 0), api.ErrNone},
		{h, at(0, -1), "c", 9, h, at(0, 0), api.ErrNone},
		{h, at(1, 0), "c", 9, h, at(0, 0), api.ErrNone},
		{h, at(3, 0), "c", 9, h, at(0, 0), api.ErrNone},
		{h, at(-1, 0), "c", 9, h, at(0, 0), api.ErrNone},
		{h, at(math.MaxInt, math.MaxInt), "c", 9, h, at(0, 0), api.ErrNone},
		{h, at(math.MinInt, math.MinInt), "c", 9, h, at(0, 0), api.ErrNone},
		{api.Heap{}, at(0, 0), "c", 9, api.Heap{}, at(0, 0), api.ErrNone},
	} {
		c.holds(t)
	}
}

// TestList holds P6.2, of List and All: the order of the places, open slots and pages without a slot left out.
func TestList(t *testing.T) {
	for _, c := range []struct {
		h    api.Heap
		ids  []api.Id
		rows []string
	}{
		{api.Heap{}, nil, nil},
		{heap(tiny), []api.Id{at(0, 0)}, []string{"a"}},
		{heap(of("")), []api.Id{at(0, 0)}, []string{""}},
		{heap(of("c", "-", "a"), none, of("-", "", "b"), full),
			[]api.Id{at(0, 0), at(0, 2), at(2, 1), at(2, 2), at(3, 0)}, []string{"c", "a", "", "b", long(1016)}},
		{heap(append(times(4095, none), of("-", "a"))...), []api.Id{at(4095, 1)}, []string{"a"}},
	} {
		ids, rows := List(c.h)
		if !slices.Equal(ids, c.ids) || !slices.Equal(rows, c.rows) {
			t.Errorf("List(%.80v) = %v, %.80q", c.h, ids, rows)
		}
		all := All(c.h)
		for range 2 {
			if ids, rows = first(all, -1); !slices.Equal(ids, c.ids) || !slices.Equal(rows, c.rows) {
				t.Errorf("All(%.80v) = %v, %.80q", c.h, ids, rows)
			}
		}
	}
	if ids, rows := List(heap(times(4096, of("a", "b"))...)); len(ids) != 8192 || ids[8191] != at(4095, 1) || rows[8190] != "a" {
		t.Errorf("%d rows of %d", len(ids), 8192)
	}
}

// first is the first n of what all tells, or all of it, if n is below 0; whoever asks says no at the nth.
func first(all func(func(api.Id, string) bool), n int) (ids []api.Id, rows []string) {
	all(func(x api.Id, data string) bool {
		ids, rows = append(ids, x), append(rows, data)
		return len(ids) != n
	})
	return ids, rows
}

// TestAllStops holds P6.2, of All: whoever asks may stop at each row, and is not asked again.
func TestAllStops(t *testing.T) {
	h := heap(of("c", "-", "a"), none, of("-", "", "b"), full)
	all, rows := List(h)
	for n := 1; n <= len(all); n++ {
		ids, told := first(All(h), n)
		if !slices.Equal(ids, all[:n]) || !slices.Equal(told, rows[:n]) {
			t.Errorf("stopped at row %d: %v, %.80q", n, ids, told)
		}
	}
	n := 0
	for x := range All(h) {
		if n++; x == at(2, 1) {
			break
		}
	}
	if n != 3 {
		t.Errorf("stopped at the third row, and %d were told", n)
	}
}

// TestAllNotKept holds rule 3, of All: it tells the heap that was handed in, though that has changed since.
func TestAllNotKept(t *testing.T) {
	h := heap(tiny, of("b"), of("c"))
	all := All(h)
	h.Pages[1] = of("d", "e")
	h.Pages[2] = none
	if _, rows := first(all, -1); !slices.Equal(rows, []string{"a", "b", "c"}) {
		t.Errorf("%q", rows)
	}
	n := 0
	h = heap(tiny, of("b"), of("c"))
	for x := range All(h) {
		h, _ = Cut(h, x)
		n++
	}
	if n != 3 || len(h.Pages) != 0 {
		t.Errorf("%d rows were told and cut, and %v is left", n, h)
	}
}

// TestNewMemory holds rule 3: no heap that is handed in changes, nor its spare room, when what came of it does, beside
// an error neither.
func TestNewMemory(t *testing.T) {
	for name, f := range map[string]func(h api.Heap) api.Heap{
		"Put":               func(h api.Heap) api.Heap { got, _, _ := Put(h, "d", 9); return got },
		"Put on a new page": func(h api.Heap) api.Heap { got, _, _ := Put(h, long(1016), 9); return got },
		"Put in no pages": func(h api.Heap) api.Heap {
			got, _, _ := Put(api.Heap{Pages: h.Pages[:0]}, "d", 9)
			return got
		},
		"Put, no room":  func(h api.Heap) api.Heap { got, _, _ := Put(h, long(1016), 0); return got },
		"Put, too long": func(h api.Heap) api.Heap { got, _, _ := Put(h, long(1017), 9); return got },
		"Put, may not be": func(h api.Heap) api.Heap {
			got, _, _ := Put(api.Heap{Pages: h.Pages[:5]}, "d", 9)
			return got
		},
		"Cut":           func(h api.Heap) api.Heap { got, _ := Cut(h, at(0, 0)); return got },
		"Cut the last":  func(h api.Heap) api.Heap { got, _ := Cut(h, at(2, 0)); return got },
		"Cut, none":     func(h api.Heap) api.Heap { got, _ := Cut(h, at(7, 0)); return got },
		"Set":           func(h api.Heap) api.Heap { got, _, _ := Set(h, at(0, 0), "d", 9); return got },
		"Set and move":  func(h api.Heap) api.Heap { got, _, _ := Set(h, at(0, 0), long(1016), 9); return got },
		"Set, no room":  func(h api.Heap) api.Heap { got, _, _ := Set(h, at(0, 0), long(1016), 0); return got },
		"Set, too long": func(h api.Heap) api.Heap { got, _, _ := Set(h, at(0, 0), long(1017), 9); return got },
		"Set, none":     func(h api.Heap) api.Heap { got, _, _ := Set(h, at(7, 0), "d", 9); return got },
	} {
		all := heap(of("a", "b"), tiny, of("c"), of("spare"), none, of("room"))
		before := deep(all)
		got := f(api.Heap{Pages: all.Pages[:3]})
		for i := range got.Pages[:cap(got.Pages)] {
			got.Pages[:cap(got.Pages)][i] = of("spoilt")
		}
		if !same(all, before) {
			t.Errorf("%s: %v has become %v", name, before, all)
		}
	}
	all := heap(of("a", "b"), tiny, of("c"), of("spare"), of("room"))
	before := deep(all)
	h := api.Heap{Pages: all.Pages[:3]}
	Right(h)
	Get(h, at(0, 1))
	List(h)
	first(All(h), -1)
	if !same(all, before) {
		t.Errorf("%v has become %v", before, all)
	}
}

// TestChangedPage holds rule 3 of the page that a call changes: its slots are new memory.
func TestChangedPage(t *testing.T) {
	h := heap(of("a", "b"), of("-", "c"))
	before := deep(h)
	put, _, _ := Put(h, "d", 9)
	cut, _ := Cut(h, at(0, 0))
	set, _, _ := Set(h, at(0, 1), "d", 9)
	for _, got := range []api.Heap{put, cut, set} {
		slots := got.Pages[0].Slots
		for i := range slots[:cap(slots)] {
			slots[:cap(slots)][i].Data = "spoilt"
		}
	}
	if !same(h, before) {
		t.Errorf("%v has become %v", before, h)
	}
}

// TestExample holds the chapter's examples.
func TestExample(t *testing.T) {
	h, x, err := Put(api.Heap{}, "a", 1)
	if x != at(0, 0) || err != api.OK {
		t.Errorf("a is put at %v: %d", x, err)
	}
	if got, x, err := Put(h, long(1012), 1); !same(got, h) || x != at(0, 0) || err != api.ErrFull {
		t.Errorf("1012 bytes with most 1: %v, %d", x, err)
	}
	if _, x, err := Put(h, long(1012), 2); x != at(1, 0) || err != api.OK {
		t.Errorf("1012 bytes with most 2: %v, %d", x, err)
	}
}

// TestRoom holds P6.3: with pages enough each row finds room, in each heap that has fewer than MaxPages.
func TestRoom(t *testing.T) {
	for _, h := range may() {
		for n := 0; n <= 1016; n += 127 {
			got, x, err := Put(h, long(n), math.MaxInt)
			if len(h.Pages) == api.MaxPages && err == api.ErrFull {
				continue
			}
			if err != api.OK || !Right(got) {
				t.Fatalf("Put(%.80v, %d bytes): %d", h, n, err)
			}
			if row, err := Get(got, x); row != long(n) || err != api.OK {
				t.Errorf("Put(%.80v, %d bytes) tells %v, where %.80q is", h, n, x, row)
			}
			if i := slices.IndexFunc(h.Pages, func(p api.Page) bool { return page.Fits(p, n) }); i >= 0 && x.Page != i {
				t.Errorf("Put(%.80v, %d bytes) tells %v, though page %d has room", h, n, x, i)
			}
		}
	}
}
