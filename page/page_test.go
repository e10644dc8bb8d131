package page

import (
	"math"
	"math/rand"
	"slices"
	"strings"
	"testing"

	"belvedere/api"
)

func used(s string) api.Slot { return api.Slot{Used: true, Data: s} }

func page(l ...api.Slot) api.Page { return api.Page{Slots: l} }

// of is the page with these rows, each in the slot of its place; "-" is a slot that isn't Used.
func of(rows ...string) api.Page {
	var p api.Page
	for _, s := range rows {
		if s == "-" {
			p.Slots = append(p.Slots, open)
		} else {
			p.Slots = append(p.Slots, used(s))
		}
	}
	return p
}

// long is a row of n bytes.
func long(n int) string { return strings.Repeat("x", n) }

// times is the page with n slots like s.
func times(n int, s api.Slot) api.Page { return page(slices.Repeat([]api.Slot{s}, n)...) }

var open = api.Slot{}

func same(a, b api.Page) bool { return slices.Equal(a.Slots, b.Slots) }

func copied(p api.Page) api.Page { return api.Page{Slots: slices.Clone(p.Slots)} }

// may are pages that may be, with their sizes.
func may() []struct {
	p    api.Page
	size int
} {
	return []struct {
		p    api.Page
		size int
	}{
		{api.Page{}, 4},
		{api.Page{Slots: []api.Slot{}}, 4},
		{of(""), 8},
		{of("ab", "c"), 15},
		{of("-", "c"), 13},
		{of("-", ""), 12},
		{of("a", "-", "-", "", "b"), 26},
		{of("\x00", "\xff\xfe"), 15},
		{of(long(1016)), 1024},
		{of(long(1015)), 1023},
		{of(long(600), "-", long(408)), 1024},
		{times(255, used("")), 1024},
		{times(254, used("")), 1020},
		{page(append(times(254, open).Slots, used(""))...), 1024},
		{page(append(times(253, open).Slots, used("abcd"))...), 1024},
	}
}

// mayNot are pages that may not be, with their sizes.
func mayNot() []struct {
	p    api.Page
	size int
} {
	return []struct {
		p    api.Page
		size int
	}{
		{of("-"), 8},
		{of("a", "-"), 13},
		{of("-", "-"), 12},
		{of(long(1017)), 1025},
		{of(long(1024)), 1032},
		{of(long(1025)), 1033},
		{of(long(5000)), 5008},
		{of(long(600), "-", long(409)), 1025},
		{times(256, used("")), 1028},
		{times(257, used("")), 1032},
		{page(append(times(255, open).Slots, used(""))...), 1028},
		{page(append(times(254, open).Slots, used("a"))...), 1025},
		{page(append(times(300, open).Slots, used(""))...), 1208},
		{page(api.Slot{Data: "a"}, used("b")), 14},
		{page(used("a"), api.Slot{Data: "b"}, used("c")), 19},
		{page(used("a"), api.Slot{Data: "b"}), 14},
		{page(api.Slot{Data: long(2000)}, used("b")), 2013},
	}
}

// random is a page that may be, full or not, with open slots or none.
func random(r *rand.Rand) api.Page {
	var p api.Page
	room := r.Intn(api.PageSize) - 4
	for n := r.Intn(1 + []int{4, 20, 255}[r.Intn(3)]); n > 0; n-- {
		s := open
		if r.Intn(3) > 0 {
			s = used(letters(r, r.Intn(1+max(0, min(room-4, 1024/n)))))
		}
		if room -= 4 + len(s.Data); room < 0 {
			break
		}
		p.Slots = append(p.Slots, s)
	}
	for len(p.Slots) > 0 && !p.Slots[len(p.Slots)-1].Used {
		p.Slots = p.Slots[:len(p.Slots)-1]
	}
	return p
}

func letters(r *rand.Rand, n int) string {
	b := make([]byte, n)
	for i := range b {
		b[i] = byte(r.Intn(256))
	}
	return string(b)
}

// TestSizeRight holds P5.1, of Size and Right.
func TestSizeRight(t *testing.T) {
	for _, c := range may() {
		if Size(c.p) != c.size || !Right(c.p) {
			t.Errorf("%.80v: %d, %v, want %d, true", c.p, Size(c.p), Right(c.p), c.size)
		}
	}
	for _, c := range mayNot() {
		if Size(c.p) != c.size || Right(c.p) {
			t.Errorf("%.80v: %d, %v, want %d, false", c.p, Size(c.p), Right(c.p), c.size)
		}
	}
	if got := Size(times(3000, used(long(5000)))); got != 4+3000*5004 {
		t.Errorf("the size of a page that is too great by far: %d", got)
	}
}

// TestFits holds P5.1, of Fits: the last number of bytes that fits, and one more.
func TestFits(t *testing.T) {
	for _, c := range []struct {
		p    api.Page
		most int // -1: none fits
	}{
		{api.Page{}, 1016},
		{of(""), 1012},
		{of("ab", "c"), 1005},
		{of("-", "c"), 1011},
		{of("-", ""), 1012},
		{of("a", "-", "-", "", "b"), 998},
		{of(long(1016)), -1},
		{of(long(1012)), 0},
		{of(long(1011)), 1},
		{of(long(1013)), -1},
		{of("-", long(1012)), 0},
		{of("-", long(1011)), 1},
		{of("-", long(1008)), 4},
		{times(255, used("")), -1},
		{times(254, used("")), 0},
		{page(append(times(254, open).Slots, used(""))...), 0},
		{page(append(times(253, used("")).Slots, open, used(""))...), 0},
		{page(append(times(253, open).Slots, used(""))...), 4},
	} {
		for _, n := range []int{0, 1, c.most - 1, c.most, c.most + 1, 1016, 1017, 1023, 1024, 1025, 5000,
			-1, -4, -1024, math.MinInt, math.MaxInt, math.MaxInt - 4} {
			if want := 0 <= n && n <= c.most; Fits(c.p, n) != want {
				t.Errorf("Fits(%.80v, %d) = %v", c.p, n, !want)
			}
		}
	}
	for _, c := range mayNot() {
		for _, n := range []int{-1, 0, 1, 1024} {
			if Fits(c.p, n) {
				t.Errorf("Fits(%.80v, %d), which may not be", c.p, n)
			}
		}
	}
}

// TestPut holds P5.2, of Put.
func TestPut(t *testing.T) {
	for _, c := range []struct {
		p    api.Page
		data string
		want api.Page
		i    int
		err  api.Errno
	}{
		{api.Page{}, "ab", of("ab"), 0, api.OK},
		{api.Page{}, "", of(""), 0, api.OK},
		{of("ab"), "c", of("ab", "c"), 1, api.OK},
		{of("-", "c"), "d", of("d", "c"), 0, api.OK},
		{of("-", "c"), "", of("", "c"), 0, api.OK},
		{of("a", "-", "b", "-", "c"), "d", of("a", "d", "b", "-", "c"), 1, api.OK},
		{of("a", "d", "b", "-", "c"), "e", of("a", "d", "b", "e", "c"), 3, api.OK},
		{of("", "", ""), "", of("", "", "", ""), 3, api.OK},
		{api.Page{}, long(1016), of(long(1016)), 0, api.OK},
		{api.Page{}, long(1017), api.Page{}, 0, api.ErrFull},
		{of("a"), long(1011), of("a", long(1011)), 1, api.OK},
		{of("a"), long(1012), of("a"), 0, api.ErrFull},
		{of("-", "a"), long(1011), of(long(1011), "a"), 0, api.OK},
		{of("-", "a"), long(1012), of("-", "a"), 0, api.ErrFull},
		{of("a"), long(1024), of("a"), 0, api.ErrFull},
		{of("a"), long(1025), of("a"), 0, api.ErrFull},
		{of("a"), long(70000), of("a"), 0, api.ErrFull},
		{times(254, used("")), "", times(255, used("")), 254, api.OK},
		{times(254, used("")), "a", times(254, used("")), 0, api.ErrFull},
		{times(255, used("")), "", times(255, used("")), 0, api.ErrFull},
	} {
		got, i, err := Put(c.p, c.data)
		if !same(got, c.want) || i != c.i || err != c.err {
			t.Errorf("Put(%.80v, %.80v) = %.80v, %d, %d, want %.80v, %d, %d", c.p, c.data, got, i, err, c.want, c.i, c.err)
		}
	}
}

// TestGet holds P5.2, of Get.
func TestGet(t *testing.T) {
	p := of("ab", "-", "", "c")
	for _, c := range []struct {
		p    api.Page
		i    int
		want string
		err  api.Errno
	}{
		{p, 0, "ab", api.OK},
		{p, 1, "", api.ErrNone},
		{p, 2, "", api.OK},
		{p, 3, "c", api.OK},
		{p, 4, "", api.ErrNone},
		{p, -1, "", api.ErrNone},
		{p, math.MaxInt, "", api.ErrNone},
		{p, math.MinInt, "", api.ErrNone},
		{api.Page{}, 0, "", api.ErrNone},
		{times(255, used("")), 254, "", api.OK},
		{times(255, used("")), 255, "", api.ErrNone},
		{of(long(1016)), 0, long(1016), api.OK},
	} {
		if got, err := Get(c.p, c.i); got != c.want || err != c.err {
			t.Errorf("Get(%.80v, %d) = %.80v, %d, want %.80v, %d", c.p, c.i, got, err, c.want, c.err)
		}
	}
}

// TestCut holds P5.2, of Cut.
func TestCut(t *testing.T) {
	for _, c := range []struct {
		p    api.Page
		i    int
		want api.Page
		err  api.Errno
	}{
		{of("ab", "c"), 0, of("-", "c"), api.OK},
		{of("ab", "c"), 1, of("ab"), api.OK},
		{of("ab", "", "c"), 1, of("ab", "-", "c"), api.OK},
		{of("a"), 0, api.Page{}, api.OK},
		{of(""), 0, api.Page{}, api.OK},
		{of("-", "-", "a"), 2, api.Page{}, api.OK},
		{of("a", "-", "-", "b"), 3, of("a"), api.OK},
		{of("a", "-", "", "-", "b"), 4, of("a", "-", ""), api.OK},
		{of("a", "-", "b"), 1, of("a", "-", "b"), api.ErrNone},
		{of("a", "-", "b"), 3, of("a", "-", "b"), api.ErrNone},
		{of("a", "-", "b"), -1, of("a", "-", "b"), api.ErrNone},
		{of("a", "-", "b"), math.MaxInt, of("a", "-", "b"), api.ErrNone},
		{of("a", "-", "b"), math.MinInt, of("a", "-", "b"), api.ErrNone},
		{api.Page{}, 0, api.Page{}, api.ErrNone},
		{page(append(times(254, open).Slots, used(""))...), 254, api.Page{}, api.OK},
	} {
		if got, err := Cut(c.p, c.i); !same(got, c.want) || err != c.err {
			t.Errorf("Cut(%.80v, %d) = %.80v, %d, want %.80v, %d", c.p, c.i, got, err, c.want, c.err)
		}
	}
}

// TestSet holds P5.2, of Set.
func TestSet(t *testing.T) {
	for _, c := range []struct {
		p    api.Page
		i    int
		data string
		want api.Page
		err  api.Errno
	}{
		{of("ab", "c"), 0, "xyz", of("xyz", "c"), api.OK},
		{of("ab", "c"), 1, "", of("ab", ""), api.OK},
		{of("ab", ""), 1, "d", of("ab", "d"), api.OK},
		{of("ab", "-", "c"), 2, "ab", of("ab", "-", "ab"), api.OK},
		{of("ab", "c"), 1, long(1010), of("ab", long(1010)), api.OK},
		{of("ab", "c"), 1, long(1011), of("ab", "c"), api.ErrFull},
		{of("ab", "c"), 0, long(1011), of(long(1011), "c"), api.OK},
		{of("ab", "c"), 0, long(1012), of("ab", "c"), api.ErrFull},
		{of("ab", "-", "c"), 0, long(1007), of(long(1007), "-", "c"), api.OK},
		{of("ab", "-", "c"), 0, long(1008), of("ab", "-", "c"), api.ErrFull},
		{of("a"), 0, long(1016), of(long(1016)), api.OK},
		{of("a"), 0, long(1017), of("a"), api.ErrFull},
		{of("a"), 0, long(1025), of("a"), api.ErrFull},
		{of("a"), 0, long(70000), of("a"), api.ErrFull},
		{of(long(1016)), 0, long(1016), of(long(1016)), api.OK},
		{of(long(1016)), 0, strings.Repeat("y", 1016), of(strings.Repeat("y", 1016)), api.OK},
		{of(long(1016)), 0, "", of(""), api.OK},
		{of("ab", "-", "c"), 1, "d", of("ab", "-", "c"), api.ErrNone},
		{of("ab", "-", "c"), 1, long(2000), of("ab", "-", "c"), api.ErrNone},
		{of("ab", "-", "c"), 3, "d", of("ab", "-", "c"), api.ErrNone},
		{of("ab", "-", "c"), -1, "d", of("ab", "-", "c"), api.ErrNone},
		{of("ab", "-", "c"), math.MinInt, "d", of("ab", "-", "c"), api.ErrNone},
		{of("ab", "-", "c"), math.MaxInt, "d", of("ab", "-", "c"), api.ErrNone},
		{api.Page{}, 0, "", api.Page{}, api.ErrNone},
		{times(255, used("")), 7, "", times(255, used("")), api.OK},
		{times(255, used("")), 7, "a", times(255, used("")), api.ErrFull},
	} {
		if got, err := Set(c.p, c.i, c.data); !same(got, c.want) || err != c.err {
			t.Errorf("Set(%.80v, %d, %.80v) = %.80v, %d, want %.80v, %d", c.p, c.i, c.data, got, err, c.want, c.err)
		}
	}
}

// TestMayNot holds P5.2 and P5.3: ErrArg comes ahead of all else, and the page stays as it is.
func TestMayNot(t *testing.T) {
	for _, c := range mayNot() {
		for _, data := range []string{"", "a", long(1024), long(1025)} {
			if got, i, err := Put(c.p, data); !same(got, c.p) || i != 0 || err != api.ErrArg {
				t.Errorf("Put(%.80v, %.80v) = %.80v, %d, %d", c.p, data, got, i, err)
			}
			for _, i := range []int{0, 1, 2, -1, 1000} {
				if got, err := Set(c.p, i, data); !same(got, c.p) || err != api.ErrArg {
					t.Errorf("Set(%.80v, %d, %.80v) = %.80v, %d", c.p, i, data, got, err)
				}
			}
		}
		for _, i := range []int{0, 1, 2, -1, 1000} {
			if got, err := Get(c.p, i); got != "" || err != api.ErrArg {
				t.Errorf("Get(%.80v, %d) = %.80v, %d", c.p, i, got, err)
			}
			if got, err := Cut(c.p, i); !same(got, c.p) || err != api.ErrArg {
				t.Errorf("Cut(%.80v, %d) = %.80v, %d", c.p, i, got, err)
			}
		}
		if got, err := Bytes(c.p); got != "" || err != api.ErrArg {
			t.Errorf("Bytes(%.80v) = %.80v, %d", c.p, got, err)
		}
	}
}

// TestPutGetCut holds P5.4 of pages that many calls have made.
func TestPutGetCut(t *testing.T) {
	r := rand.New(rand.NewSource(1))
	for range 200 {
		p := random(r)
		if !Right(p) {
			t.Fatalf("%#v may not be", p)
		}
		for range 30 {
			p = step(t, r, p)
		}
	}
}

// step does one call on p, and holds what has come of it against what the chapter says.
func step(t *testing.T, r *rand.Rand, p api.Page) api.Page {
	t.Helper()
	data, i := letters(r, r.Intn(1+[]int{3, 80, 1024}[r.Intn(3)])), r.Intn(len(p.Slots)+1)
	if r.Intn(2) == 0 {
		next, i, err := Put(p, data)
		if fits := Fits(p, len(data)); fits != (err == api.OK) || !fits && err != api.ErrFull {
			t.Fatalf("Put(%#v, %#v): %d, and Fits is %v", p, data, err, fits)
		}
		if err == api.OK {
			holds(t, p, next, i, data)
			if back, err := Cut(next, i); !same(back, p) || err != api.OK {
				t.Fatalf("%#v, put %#v and cut again: %#v, %d", p, data, back, err)
			}
		}
		return next
	}
	_, there := Get(p, i)
	if r.Intn(2) == 0 {
		next, err := Cut(p, i)
		if err != there {
			t.Fatalf("Cut(%#v, %d): %d, want %d", p, i, err, there)
		}
		if err == api.OK {
			gone(t, p, next, i)
		}
		return next
	}
	next, err := Set(p, i, data)
	if there != api.OK && err != there {
		t.Fatalf("Set(%#v, %d, %#v): %d, want %d", p, i, data, err, there)
	}
	if err == api.OK {
		holds(t, p, next, i, data)
	}
	return next
}

// holds holds that next has data in slot i, and else is as p.
func holds(t *testing.T, p, next api.Page, i int, data string) {
	t.Helper()
	if got, err := Get(next, i); got != data || err != api.OK || !Right(next) {
		t.Fatalf("%#v: Get(%d) = %#v, %d, want %#v", next, i, got, err, data)
	}
	others(t, p, next, i)
}

// gone holds that next has no slot i, and else is as p.
func gone(t *testing.T, p, next api.Page, i int) {
	t.Helper()
	if _, err := Get(next, i); err != api.ErrNone || !Right(next) {
		t.Fatalf("%#v: Get(%d): %d", next, i, err)
	}
	others(t, p, next, i)
}

func others(t *testing.T, p, next api.Page, i int) {
	t.Helper()
	for j := range max(len(p.Slots), len(next.Slots)) + 1 {
		was, before := Get(p, j)
		is, now := Get(next, j)
		if j != i && (was != is || before != now) {
			t.Fatalf("%#v has become %#v: not slot %d alone has changed", p, next, i)
		}
	}
}

// TestNewMemory holds rule 3: no page that is handed in changes, nor its spare room, when what came of it does.
func TestNewMemory(t *testing.T) {
	for name, f := range map[string]func(p api.Page) (api.Page, api.Errno){
		"Put": func(p api.Page) (api.Page, api.Errno) { q, _, err := Put(p, "d"); return q, err },
		"Put in the midst": func(p api.Page) (api.Page, api.Errno) {
			q, _, err := Put(api.Page{Slots: p.Slots[:2]}, "d")
			return q, err
		},
		"Put first": func(p api.Page) (api.Page, api.Errno) {
			q, _, err := Put(api.Page{Slots: p.Slots[:0]}, "d")
			return q, err
		},
		"Cut":          func(p api.Page) (api.Page, api.Errno) { return Cut(p, 0) },
		"Cut the last": func(p api.Page) (api.Page, api.Errno) { return Cut(p, 3) },
		"Set":          func(p api.Page) (api.Page, api.Errno) { return Set(p, 1, "d") },
	} {
		all := of("a", "b", "-", "c", "spare", "room")
		before := copied(all)
		got, err := f(api.Page{Slots: all.Slots[:4]})
		if err != api.OK {
			t.Errorf("%s: %d", name, err)
		}
		for i := range got.Slots[:cap(got.Slots)] {
			got.Slots[:cap(got.Slots)][i] = used("spoilt")
		}
		if !same(all, before) {
			t.Errorf("%s: %#v has become %#v", name, before, all)
		}
	}
	all := of("a", "b", "-", "c", "spare", "room")
	before := copied(all)
	p := api.Page{Slots: all.Slots[:4]}
	Size(p)
	Right(p)
	Fits(p, 3)
	Get(p, 1)
	Bytes(p)
	if !same(all, before) {
		t.Errorf("%#v has become %#v", before, all)
	}
}

// TestExample holds the chapter's example.
func TestExample(t *testing.T) {
	p, i, _ := Put(api.Page{}, "ab")
	p, k, _ := Put(p, "c")
	if i != 0 || k != 1 || Size(p) != 15 {
		t.Errorf("slots %d and %d of %#v", i, k, p)
	}
	p, _ = Cut(p, 0)
	s, _ := Bytes(p)
	if !strings.HasPrefix(s, "\x00\x02\x00\x00\x00\x00\x03\xff\x00\x01\x00") || !strings.HasSuffix(s, "\x00c") {
		t.Errorf("the bytes of %#v are %#v", p, s)
	}
}
