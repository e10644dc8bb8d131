package table

import (
	"math/rand"
	"reflect"
	"slices"
	"strings"
	"testing"

	"belvedere/api"
	"belvedere/bag"
)

// maker makes schemas, rows and changes.
type maker struct{ r *rand.Rand }

// rarely is true once in n times.
func (m maker) rarely(n int) bool { return m.r.Intn(n) == 0 }

// one is one of l.
func one[T any](m maker, l ...T) T { return l[m.r.Intn(len(l))] }

// anySchema is one that may be, or nearly.
func (m maker) anySchema() api.Schema {
	s := api.Schema{Name: "t"}
	if m.rarely(30) {
		s.Name = one(m, notNames()...)
	}
	n := m.r.Intn(10)
	for _, c := range numbered(n) {
		c.Type = 1 + m.r.Intn(3)
		c.Must = m.rarely(2)
		if m.rarely(60) {
			c.Name = one(m, notNames()...)
		}
		if m.rarely(60) {
			c.Type = one(m, 0, 4, -1)
		}
		if m.rarely(40) && len(s.Cols) > 0 {
			c.Name = one(m, s.Cols...).Name
		}
		s.Cols = append(s.Cols, c)
	}
	s.Key = m.r.Perm(n)[:m.r.Intn(n+1)]
	if m.rarely(8) {
		s.Key = append(s.Key, one(m, -1, n, n+1, 0, 0, 0, 0, 0))
	}
	m.r.Shuffle(len(s.Key), func(i, j int) { s.Key[i], s.Key[j] = s.Key[j], s.Key[i] })
	return s
}

// TestManySchemas holds P19.1 of many schemas, against the model.
func TestManySchemas(t *testing.T) {
	m := maker{rand.New(rand.NewSource(19))}
	seen := map[api.Errno]int{}
	for range 20000 {
		s := m.anySchema()
		want := modelCheck(s)
		seen[want]++
		checked(t, s, want)
		if t.Failed() {
			return
		}
	}
	for _, err := range []api.Errno{api.OK, api.ErrArg, api.ErrLong, api.ErrType, api.ErrTwice} {
		if seen[err] < 500 {
			t.Errorf("%d was to be told %d times", err, seen[err])
		}
	}
}

// schema is one that may be, of few columns most times.
func (m maker) schema() api.Schema {
	n := one(m, 1, 1, 2, 2, 2, 3, 3, 8)
	s := api.Schema{Name: "t"}
	for _, c := range numbered(n) {
		c.Type = 1 + m.r.Intn(3)
		c.Must = m.rarely(5)
		s.Cols = append(s.Cols, c)
	}
	if !m.rarely(3) {
		s.Key = m.r.Perm(n)[:1+m.r.Intn(min(n, 2))]
	}
	return s
}

// value is one of few of a type, or nothing.
func (m maker) value(kind int) api.Value {
	if m.rarely(12) {
		return nothing
	}
	switch kind {
	case api.TInt:
		return num(m.r.Intn(8) - 3)
	case api.TBool:
		return truth(m.r.Intn(2))
	}
	return text(strings.Repeat(one(m, "a", "b", "\x00"), one(m, 0, 1, 2, 63, 64, 64)))
}

// row is one of which few values, most times none, are wrong.
func (m maker) row(s api.Schema) []api.Value {
	var r []api.Value
	for _, c := range s.Cols {
		v := m.value(c.Type)
		if m.rarely(100) {
			v = one(m, num(1), truth(0), text("a"), text(strings.Repeat("a", 65)), api.Value{Kind: 4}, api.Value{N: 1}, api.Value{Kind: api.TBool, N: 2})
		}
		r = append(r, v)
	}
	if m.rarely(100) {
		r = append(r, num(1))
	}
	if m.rarely(100) {
		r = r[1:]
	}
	return r
}

// changes are rows that come and some of rows that go, not too often most times.
func (m maker) changes(s api.Schema, rows [][]api.Value) []api.Many {
	var l []api.Many
	for range m.r.Intn(5) {
		l = append(l, comes(one(m, 1, 1, 1, 1, 2, 3, 30), m.row(s)))
	}
	for range m.r.Intn(4) {
		if len(rows) > 0 {
			l = append(l, goes(one(m, 1, 1, 1, 1, 1, 2), one(m, rows...)))
		}
	}
	if m.rarely(60) {
		l = append(l, goes(1, m.row(s)))
	}
	if m.rarely(60) {
		l = append(l, comes(one(m, 1900, 2000, 2001, api.MaxMany), m.row(s)))
	}
	ch := bag.Of(l)
	if m.rarely(40) && len(ch) > 0 {
		ch = append(ch, comes(one(m, 0, 1, -1, api.MaxMany+1), one(m, ch...).Row))
	}
	return ch
}

// same holds all that x tells to what the model tells.
func same(t *testing.T, x *Table, want model) {
	t.Helper()
	rows := want.rows()
	var all [][]api.Value
	for r := range x.All() {
		all = append(all, r)
	}
	if !slices.EqualFunc(all, rows, slices.Equal) || x.Len() != len(rows) || x.Pages() != len(want.h.Pages) {
		t.Fatalf("%d rows on %d pages: %s, want %s", x.Len(), x.Pages(), brief(all), brief(rows))
	}
	if len(rows)+len(x.Rows()) > 0 && !reflect.DeepEqual(x.Rows(), bag.List(rows)) {
		t.Fatalf("Rows: %s, want %s", brief(x.Rows()), brief(bag.List(rows)))
	}
	alike := func(a, b api.Page) bool { return slices.Equal(a.Slots, b.Slots) }
	if !slices.EqualFunc(x.Heap().Pages, want.h.Pages, alike) || !sameSchema(x.Schema(), want.s) {
		t.Fatalf("%v with %s, want %v with %s", x.Schema(), brief(x.Heap()), want.s, brief(want.h))
	}
	if want.clashes(rows) {
		t.Fatalf("%s: two rows have one key", brief(rows))
	}
	places(t, x)
}

// finds holds Find of the keys of rows, and of others, to what the model tells.
func finds(t *testing.T, m maker, x *Table, want model) {
	t.Helper()
	var keys [][]api.Value
	for _, r := range want.rows() {
		keys = append(keys, keyOf(want.s, r))
	}
	if len(keys) > 20 {
		keys = keys[len(keys)-20:]
	}
	keys = append(keys, nil, m.row(want.s))
	for range 3 {
		if r := m.row(want.s); len(r) == len(want.s.Cols) {
			keys = append(keys, keyOf(want.s, r), keyOf(want.s, r)[:len(want.s.Key)/2])
		}
	}
	for _, k := range keys {
		r, has := want.find(k)
		if has {
			found(t, x, r, k...)
		} else {
			unfound(t, x, k...)
		}
	}
}

// TestManyChanges holds P19.2, P19.3 and P19.4 of tables that many changes have come to, against the model; each now and
// then goes on as a Copy.
func TestManyChanges(t *testing.T) {
	m := maker{rand.New(rand.NewSource(91))}
	seen := map[api.Errno]int{}
	for range 150 {
		s := m.schema()
		x, want := made(t, s), model{s: s}
		most := 1 + m.r.Intn(6)
		for range 60 {
			ch := m.changes(s, want.rows())
			pages := most + m.r.Intn(3) - 1
			h, code := want.apply(ch, pages)
			if got := x.Apply(ch, pages); got != code {
				t.Fatalf("%v with %s: Apply(%v, %d) = %d, want %d", s, brief(want.rows()), ch, pages, got, code)
			}
			seen[code]++
			want.h = h
			same(t, x, want)
			finds(t, m, x, want)
			if m.rarely(20) {
				x = x.Copy()
				same(t, x, want)
			}
			if t.Failed() {
				return
			}
		}
	}
	for _, err := range []api.Errno{api.OK, api.ErrArg, api.ErrLong, api.ErrType, api.ErrKey, api.ErrNull, api.ErrFull, api.ErrNone} {
		if seen[err] < 100 {
			t.Errorf("%d was to be told %d times", err, seen[err])
		}
	}
}

// TestBackAgain holds P19.4: changes, and then the same turned, leave the rows as they were.
func TestBackAgain(t *testing.T) {
	m := maker{rand.New(rand.NewSource(9))}
	done := 0
	for range 200 {
		s := m.schema()
		x := made(t, s)
		for range 40 {
			was := x.Rows()
			ch := m.changes(s, bag.Rows(was))
			if x.Apply(ch, api.MaxPages) != api.OK {
				continue
			}
			done++
			want := bag.Add(was, ch)
			if got := x.Rows(); !slices.EqualFunc(got, want, sameMany) {
				t.Fatalf("%s and %v: %s, want %s", brief(was), ch, brief(got), brief(want))
			}
			if m.rarely(2) {
				apply(t, x, api.MaxPages, bag.Turn(ch)...)
				if got := x.Rows(); !slices.EqualFunc(got, was, sameMany) {
					t.Fatalf("%s, %v and back: %s", brief(was), ch, brief(got))
				}
			}
		}
		apply(t, x, 0, bag.Turn(x.Rows())...)
		stands(t, x)
	}
	if done < 1000 {
		t.Errorf("%d changes were done", done)
	}
}

func sameMany(a, b api.Many) bool { return a.N == b.N && slices.Equal(a.Row, b.Row) }

// TestManyRows holds P19.2 to P19.4 of a table of as many rows as may be, each on a page of its own.
func TestManyRows(t *testing.T) {
	r := rand.New(rand.NewSource(5))
	var rows [][]api.Value
	for i := range api.MaxRows {
		rows = append(rows, long(string(rune('a'+i/80))+string(rune('0'+i%80))))
	}
	for _, s := range []api.Schema{wide(), wide(3)} {
		x := made(t, s)
		var all []api.Many
		for _, row := range rows {
			all = append(all, comes(1, row))
		}
		refused(t, x, api.MaxRows-1, api.ErrFull, inOrder(all...)...)
		apply(t, x, api.MaxRows, all...)
		if x.Pages() != api.MaxRows {
			t.Fatalf("%d pages", x.Pages())
		}
		places(t, x)
		r.Shuffle(len(all), func(i, j int) { all[i], all[j] = all[j], all[i] })
		half := slices.Clone(all[:api.MaxRows/2])
		apply(t, x, 0, bag.Turn(inOrder(half...))...)
		for i, one := range all {
			if f, has := x.Find(one.Row[3:4]); has != (i >= len(half) && len(s.Key) > 0) || has && !slices.Equal(f, one.Row) {
				t.Fatalf("Find(%v) = %v, %v", one.Row[3], f, has)
			}
		}
		apply(t, x, api.MaxRows, half...)
		apply(t, x, 0, bag.Turn(x.Rows())...)
		stands(t, x)
	}
}
