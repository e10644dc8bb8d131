package table

import (
	"fmt"
	"math"
	"reflect"
	"slices"
	"strconv"
	"strings"
	"testing"

	"belvedere/api"
	"belvedere/code"
	"belvedere/heap"
	"belvedere/value"
)

func num(n int) api.Value     { return api.Value{Kind: api.TInt, N: n} }
func truth(n int) api.Value   { return api.Value{Kind: api.TBool, N: n} }
func text(s string) api.Value { return api.Value{Kind: api.TText, S: s} }

var nothing = api.Value{}

func row(l ...api.Value) []api.Value { return l }

func col(name string, kind int) api.Column { return api.Column{Name: name, Type: kind} }

func must(name string, kind int) api.Column {
	return api.Column{Name: name, Type: kind, Must: true}
}

func schema(key []int, cols ...api.Column) api.Schema {
	return api.Schema{Name: "t", Cols: cols, Key: key}
}

// pairs is what most tests have: a number and a text; by the number, or without a Key.
func pairs(key ...int) api.Schema {
	return schema(key, col("a", api.TInt), col("b", api.TText))
}

// numbered are n columns of numbers.
func numbered(n int) []api.Column {
	var l []api.Column
	for i := range n {
		l = append(l, col("c"+strconv.Itoa(i), api.TInt))
	}
	return l
}

// upTo are the places 0 to n - 1.
func upTo(n int) []int {
	var l []int
	for i := range n {
		l = append(l, i)
	}
	return l
}

// made is a new table, into which rows come one by one, so that they stand in this order.
func made(t *testing.T, s api.Schema, rows ...[]api.Value) *Table {
	t.Helper()
	x, err := New(s)
	if err != api.OK || x == nil {
		t.Fatalf("New(%+v) = %v, %d", s, x, err)
	}
	for _, r := range rows {
		apply(t, x, api.MaxPages, comes(1, r))
	}
	return x
}

func comes(n int, r []api.Value) api.Many { return api.Many{Row: r, N: n} }

func goes(n int, r []api.Value) api.Many { return api.Many{Row: r, N: -n} }

// inOrder are changes as a bag has them.
func inOrder(l ...api.Many) []api.Many {
	slices.SortFunc(l, func(a, b api.Many) int { return value.Rows(a.Row, b.Row) })
	return l
}

// brief is the beginning of what v holds.
func brief(v any) string {
	s := fmt.Sprintf("%v", v)
	return s[:min(len(s), 500)]
}

// apply does changes that can be done.
func apply(t *testing.T, x *Table, pages int, l ...api.Many) {
	t.Helper()
	if err := x.Apply(inOrder(l...), pages); err != api.OK {
		t.Fatalf("Apply(%s, %d) = %d", brief(l), pages, err)
	}
}

// refused holds that changes, as they are, can't be done, and that nothing is done.
func refused(t *testing.T, x *Table, pages int, want api.Errno, l ...api.Many) {
	t.Helper()
	was := told(x)
	if err := x.Apply(l, pages); err != want {
		t.Errorf("Apply(%s, %d) = %d, want %d", brief(l), pages, err, want)
	}
	if now := told(x); !reflect.DeepEqual(now, was) {
		t.Errorf("Apply(%s, %d): behind the error there is\n%s, and was\n%s", brief(l), pages, brief(now), brief(was))
	}
	places(t, x)
}

// told is all that is told of x.
func told(x *Table) []any {
	all := [][]api.Value{}
	found := [][]api.Value{}
	for r := range x.All() {
		all = append(all, r)
		if f, has := x.Find(keyOf(x.Schema(), r)); has {
			found = append(found, f)
		}
	}
	return []any{x.Schema(), x.Rows(), all, x.Len(), x.Pages(), x.Heap(), found}
}

// keyOf is a row's key.
func keyOf(s api.Schema, r []api.Value) []api.Value {
	var k []api.Value
	for _, at := range s.Key {
		k = append(k, r[at])
	}
	return k
}

// places holds that the places that x knows are those at which its rows stand.
func places(t *testing.T, x *Table) {
	t.Helper()
	known := map[api.Id]string{}
	for key, ids := range x.places.Scan("", "") {
		for i, id := range ids {
			known[id] = key
			if i > 0 && byPlace(ids[i-1], id) >= 0 {
				t.Fatalf("%v don't rise", ids)
			}
		}
		if len(ids) == 0 {
			t.Fatalf("%q has no place", key)
		}
	}
	n := 0
	for id, data := range heap.All(x.Heap()) {
		n++
		r, _ := code.Read(data)
		if key, has := known[id]; !has || key != x.key(r) {
			t.Fatalf("%v stands at %v, known there: %q, %v", r, id, key, has)
		}
	}
	if n != len(known) {
		t.Fatalf("%d rows, %d places", n, len(known))
	}
}

// stands holds that x has just these rows, in the order of their places.
func stands(t *testing.T, x *Table, want ...[]api.Value) {
	t.Helper()
	var got [][]api.Value
	for r := range x.All() {
		got = append(got, r)
	}
	if !slices.EqualFunc(got, want, slices.Equal) || x.Len() != len(want) {
		t.Errorf("%d rows: %s, want %s", x.Len(), brief(got), brief(want))
	}
	places(t, x)
}

// found holds what Find tells of a key that a row has.
func found(t *testing.T, x *Table, want []api.Value, k ...api.Value) {
	t.Helper()
	if got, has := x.Find(k); !has || !slices.Equal(got, want) {
		t.Errorf("Find(%s) = %v, %v, want %v", brief(k), got, has, want)
	}
}

// unfound holds what Find tells of a key that none has.
func unfound(t *testing.T, x *Table, k ...api.Value) {
	t.Helper()
	if got, has := x.Find(k); has || len(got) != 0 {
		t.Errorf("Find(%s) = %v, %v", brief(k), got, has)
	}
}

// checked holds Check and New of s.
func checked(t *testing.T, s api.Schema, want api.Errno) {
	t.Helper()
	if err := Check(s); err != want {
		t.Errorf("Check(%s) = %d, want %d", brief(s), err, want)
	}
	x, err := New(s)
	if err != want || (x == nil) != (want != api.OK) {
		t.Errorf("New(%s) = %v, %d, want %d", brief(s), x, err, want)
	}
	if x != nil && (x.Len() != 0 || x.Pages() != 0 || len(x.Heap().Pages) != 0 || len(x.Rows()) != 0 || !sameSchema(x.Schema(), s)) {
		t.Errorf("New(%s) is like %s, and has %v", brief(s), brief(x.Schema()), x.Rows())
	}
}

func sameSchema(a, b api.Schema) bool {
	return a.Name == b.Name && slices.Equal(a.Cols, b.Cols) && slices.Equal(a.Key, b.Key)
}

// notNames are such as no table, view or column may have.
func notNames() []string {
	return []string{"", "select", "key", "int", "A", "aB", "1a", "a b", "a-b", " a", "a ", "é", "a\x00", strings.Repeat("a", 17)}
}

// TestMayBe holds P19.1 of schemas that may be.
func TestMayBe(t *testing.T) {
	for _, s := range []api.Schema{
		pairs(),
		pairs(0),
		pairs(1),
		pairs(0, 1),
		pairs(1, 0),
		{Name: "t", Cols: []api.Column{col("t", api.TBool)}, Key: []int{}},
		{Name: "_", Cols: []api.Column{must("_", api.TText)}, Key: []int{0}},
		{Name: "selects", Cols: []api.Column{col("keys", api.TInt)}},
		{Name: strings.Repeat("a", 16), Cols: []api.Column{col(strings.Repeat("b", 16), api.TInt), col(strings.Repeat("b", 15), api.TInt)}},
		schema(nil, col("a", api.TInt), col("b", api.TBool), must("c", api.TText)),
		schema(nil, numbered(8)...),
		schema([]int{7}, numbered(8)...),
		schema([]int{7, 6, 5, 4, 3, 2, 1, 0}, numbered(8)...),
		schema(upTo(8), numbered(8)...),
	} {
		checked(t, s, api.OK)
	}
}

// TestMayNotBe holds P19.1: each error alone.
func TestMayNotBe(t *testing.T) {
	for _, name := range notNames() {
		checked(t, api.Schema{Name: name, Cols: numbered(2)}, api.ErrArg)
		checked(t, schema(nil, col(name, api.TInt)), api.ErrArg)
		checked(t, schema(nil, append(numbered(7), col(name, api.TInt))...), api.ErrArg)
	}
	for _, n := range []int{math.MinInt, -1, api.TAny, 4, 5, math.MaxInt} {
		checked(t, schema(nil, col("a", n)), api.ErrType)
		checked(t, schema(nil, append(numbered(7), col("a", n))...), api.ErrType)
	}
	for i := range 7 {
		l := append(numbered(7), must("c"+strconv.Itoa(i), api.TText))
		checked(t, schema(nil, l...), api.ErrTwice)
	}
	for _, at := range []int{math.MinInt, -1, 2, 8, math.MaxInt} {
		checked(t, pairs(at), api.ErrArg)
		checked(t, pairs(1, at), api.ErrArg)
	}
	checked(t, schema(nil), api.ErrLong)
	checked(t, schema(nil, []api.Column{}...), api.ErrLong)
	checked(t, schema(nil, numbered(9)...), api.ErrLong)
	checked(t, schema(nil, numbered(1000)...), api.ErrLong)
	checked(t, schema(upTo(9), numbered(8)...), api.ErrLong)
	checked(t, schema(slices.Repeat([]int{0}, 9), numbered(8)...), api.ErrLong)
	checked(t, schema(slices.Repeat([]int{-1}, 1000), numbered(1)...), api.ErrLong)
	checked(t, pairs(0, 0), api.ErrTwice)
	checked(t, schema([]int{7, 3, 5, 3}, numbered(8)...), api.ErrTwice)
	checked(t, api.Schema{}, api.ErrArg)
}

// A fault is something that a schema may not have.
type fault struct {
	err   api.Errno
	spoil func(s *api.Schema)
}

// faults are what can be wrong with a schema of eight columns and a Key of five places, in the order in which the
// chapter names it.
func faults() []fault {
	return []fault{
		{api.ErrArg, func(s *api.Schema) { s.Name = "select" }},
		{api.ErrLong, func(s *api.Schema) { s.Key = append(s.Key, 5, 5, 5, 5) }},
		{api.ErrArg, func(s *api.Schema) { s.Cols[0].Name = "" }},
		{api.ErrType, func(s *api.Schema) { s.Cols[0].Type = api.TAny }},
		{api.ErrType, func(s *api.Schema) { s.Cols[2].Type = 4 }},
		{api.ErrTwice, func(s *api.Schema) { s.Cols[2].Name = "c1" }},
		{api.ErrTwice, func(s *api.Schema) { s.Cols[3].Name = "c1" }},
		{api.ErrArg, func(s *api.Schema) { s.Cols[4].Name = "Z" }},
		{api.ErrType, func(s *api.Schema) { s.Cols[4].Type = -1 }},
		{api.ErrArg, func(s *api.Schema) { s.Cols[5].Name = "and" }},
		{api.ErrType, func(s *api.Schema) { s.Cols[6].Type = math.MaxInt }},
		{api.ErrTwice, func(s *api.Schema) { s.Cols[7].Name = "c1" }},
		{api.ErrArg, func(s *api.Schema) { s.Key[0] = 8 }},
		{api.ErrTwice, func(s *api.Schema) { s.Key[2] = s.Key[1] }},
		{api.ErrArg, func(s *api.Schema) { s.Key[3] = -1 }},
		{api.ErrTwice, func(s *api.Schema) { s.Key[4] = s.Key[1] }},
	}
}

// TestFirstFault holds P19.1: of several faults that one is told that the chapter names first.
func TestFirstFault(t *testing.T) {
	l := faults()
	whole := func() api.Schema { return schema(upTo(5), numbered(8)...) }
	checked(t, whole(), api.OK)
	for i, first := range l {
		alone, all := whole(), whole()
		first.spoil(&alone)
		checked(t, alone, first.err)
		for _, f := range l[i:] {
			f.spoil(&all)
		}
		checked(t, all, first.err)
		for _, second := range l[i+1:] {
			both := whole()
			second.spoil(&both)
			first.spoil(&both)
			checked(t, both, first.err)
		}
	}
	for _, f := range l[1:] {
		long := schema(upTo(5), numbered(9)...)
		f.spoil(&long)
		checked(t, long, api.ErrLong)
	}
}

// TestExample holds the chapter's example.
func TestExample(t *testing.T) {
	x := made(t, pairs(0))
	apply(t, x, 9, comes(1, row(num(1), text("x"))), comes(1, row(num(2), text("y"))))
	if x.Pages() != 1 {
		t.Errorf("%d pages", x.Pages())
	}
	refused(t, x, 9, api.ErrKey, comes(1, row(num(2), text("z"))))
	found(t, x, row(num(2), text("y")), num(2))
	stands(t, x, row(num(1), text("x")), row(num(2), text("y")))
}

// TestTold holds P19.3 of a table into which rows have come in an order that isn't theirs, one of them twice.
func TestTold(t *testing.T) {
	b, a, c := row(num(2), nothing), row(nothing, text("x")), row(num(1), text(""))
	x := made(t, pairs(), b, a, c, a)
	stands(t, x, b, a, c, a)
	want := []api.Many{comes(2, a), comes(1, c), comes(1, b)}
	if got := x.Rows(); !reflect.DeepEqual(got, want) {
		t.Errorf("Rows: %v, want %v", got, want)
	}
	var slots []api.Slot
	for _, r := range [][]api.Value{b, a, c, a} {
		data, _ := code.Row(r)
		slots = append(slots, api.Slot{Used: true, Data: data})
	}
	if h := (api.Heap{Pages: []api.Page{{Slots: slots}}}); !reflect.DeepEqual(x.Heap(), h) || x.Pages() != 1 {
		t.Errorf("Heap: %v, want %v; %d pages", x.Heap(), h, x.Pages())
	}
	if !sameSchema(x.Schema(), pairs()) {
		t.Errorf("Schema: %v", x.Schema())
	}
}

// TestAllStops holds P19.3: All tells rows till whoever asks stops, and tells them all to who asks again.
func TestAllStops(t *testing.T) {
	var rows [][]api.Value
	for i := range 400 {
		rows = append(rows, row(num(i*7%400), text("x")))
	}
	x := made(t, pairs(0), rows...)
	all := x.All()
	for _, most := range []int{1, 2, 60, 61, 62, 399, 400} {
		var got [][]api.Value
		for r := range all {
			got = append(got, r)
			if len(got) == most {
				break
			}
		}
		if !slices.EqualFunc(got, rows[:most], slices.Equal) {
			t.Errorf("the first %d rows: %v", most, got)
		}
	}
	asked := 0
	x.All()(func([]api.Value) bool {
		asked++
		return asked < 5
	})
	if asked != 5 {
		t.Errorf("asked %d times", asked)
	}
	stands(t, x, rows...)
}

// TestAllAsItWas holds P19.3 and rule 4: All tells the rows that were there when it was called.
func TestAllAsItWas(t *testing.T) {
	a, b, c := row(num(1), text("x")), row(num(2), text("y")), row(num(3), text("z"))
	x := made(t, pairs(0), a, b)
	all := x.All()
	for range 2 {
		var got [][]api.Value
		for r := range all {
			got = append(got, r)
			if x.Len() == 2 {
				apply(t, x, 9, goes(1, a), goes(1, b), comes(1, c))
			}
		}
		if !slices.EqualFunc(got, [][]api.Value{a, b}, slices.Equal) {
			t.Errorf("%v", got)
		}
	}
	stands(t, x, c)
}

// TestFind holds P19.3 of Find.
func TestFind(t *testing.T) {
	s := schema([]int{2, 0}, col("a", api.TInt), col("b", api.TText), col("c", api.TText))
	one := row(num(1), nothing, text("x"))
	two := row(num(-1), text("b"), text("x"))
	three := row(num(1), text("b"), text(""))
	x := made(t, s, one, two, three)
	found(t, x, one, text("x"), num(1))
	found(t, x, two, text("x"), num(-1))
	found(t, x, three, text(""), num(1))
	unfound(t, x)
	unfound(t, x, nil...)
	unfound(t, x, text("x"))
	unfound(t, x, num(1))
	unfound(t, x, num(1), text("x"))
	unfound(t, x, text("x"), num(1), nothing)
	unfound(t, x, text("x"), num(1), num(1))
	unfound(t, x, one...)
	unfound(t, x, text("x"), nothing)
	unfound(t, x, nothing, num(1))
	unfound(t, x, nothing, nothing)
	unfound(t, x, text("x"), truth(1))
	unfound(t, x, text("x"), num(2))
	unfound(t, x, text("y"), num(1))
	unfound(t, x, text("x"), api.Value{Kind: api.TInt, N: 1, S: "x"})
	unfound(t, x, text("x"), api.Value{Kind: 4, N: 1})
	unfound(t, x, api.Value{Kind: api.TText, N: 1, S: "x"}, num(1))
	unfound(t, x, text(strings.Repeat("x", 65)), num(1))
	unfound(t, x, slices.Repeat(row(text("x"), num(1)), 5)...)
	unfound(t, x, slices.Repeat(row(nothing), 1000)...)
}

// TestFindBehindChanges holds P19.3 and P19.4: rows are found behind changes where they stand then.
func TestFindBehindChanges(t *testing.T) {
	a, b, c := row(num(1), text("x")), row(num(2), text("y")), row(num(3), text("z"))
	other := row(num(2), text(strings.Repeat("y", 60)))
	x := made(t, pairs(0), a, b, c)
	apply(t, x, 9, goes(1, b))
	unfound(t, x, num(2))
	found(t, x, c, num(3))
	apply(t, x, 9, goes(1, a), comes(1, other))
	unfound(t, x, num(1))
	found(t, x, other, num(2))
	apply(t, x, 9, goes(1, other), comes(1, b))
	found(t, x, b, num(2))
	refused(t, x, 9, api.ErrKey, comes(1, row(num(2), text("other"))), comes(1, row(num(7), nothing)))
	found(t, x, b, num(2))
	unfound(t, x, num(7))
	apply(t, x, 9, goes(1, b), goes(1, c))
	unfound(t, x, num(2))
	unfound(t, x, num(3))
	stands(t, x)
}

// TestFindWithoutKey holds P19.3: there is no row by a key that there isn't.
func TestFindWithoutKey(t *testing.T) {
	a := row(num(1), text("x"))
	x := made(t, pairs(), a, a)
	unfound(t, x)
	unfound(t, x, num(1))
	unfound(t, x, a...)
	unfound(t, made(t, pairs()))
	unfound(t, made(t, pairs(0)))
	unfound(t, made(t, pairs(0)), num(1))
}

// TestFindWholeKey holds P19.3 of a Key of all columns, in another order.
func TestFindWholeKey(t *testing.T) {
	x := made(t, schema([]int{3, 2, 1, 0, 7, 6, 5, 4}, numbered(8)...))
	var r, k []api.Value
	for i := range 8 {
		r = append(r, num(i))
		k = append(k, num([]int{3, 2, 1, 0, 7, 6, 5, 4}[i]))
	}
	apply(t, x, 1, comes(1, r))
	found(t, x, r, k...)
	unfound(t, x, r...)
	unfound(t, x, k[:7]...)
}

// TestCopy holds P19.3: a Copy is the same, and goes its own way.
func TestCopy(t *testing.T) {
	for _, s := range []api.Schema{pairs(), pairs(0)} {
		a, b, c := row(num(1), text("x")), row(num(2), text("y")), row(num(3), text("z"))
		x := made(t, s, c, a, b)
		apply(t, x, 9, goes(1, a))
		was := told(x)
		y := x.Copy()
		if y == x || !reflect.DeepEqual(told(y), was) {
			t.Fatalf("Copy: %v, want %v", told(y), was)
		}
		apply(t, y, 9, goes(1, b), comes(1, a), comes(1, row(num(4), nothing)))
		if !reflect.DeepEqual(told(x), was) {
			t.Errorf("%v has become %v", was, told(x))
		}
		then := told(y)
		apply(t, x, 9, goes(1, c), comes(1, row(num(5), nothing)))
		apply(t, x, 9, comes(1, c), comes(1, row(num(6), nothing)))
		if !reflect.DeepEqual(told(y), then) {
			t.Errorf("%v has become %v", then, told(y))
		}
		places(t, x)
		places(t, y)
		if z := made(t, s).Copy(); z.Len() != 0 || z.Pages() != 0 || !sameSchema(z.Schema(), s) {
			t.Errorf("Copy of none: %v", told(z))
		}
	}
}

// TestCopyOfOften holds P19.3 of a row that stands at many places.
func TestCopyOfOften(t *testing.T) {
	a := row(num(1), text("x"))
	x := made(t, pairs())
	apply(t, x, 9, comes(100, a))
	y := x.Copy()
	apply(t, y, 9, goes(40, a))
	apply(t, x, 9, goes(1, a))
	apply(t, y, 9, comes(30, a))
	if x.Len() != 99 || y.Len() != 90 {
		t.Errorf("%d and %d rows", x.Len(), y.Len())
	}
	places(t, x)
	places(t, y)
}

// TestNil holds P19.3 of a nil table.
func TestNil(t *testing.T) {
	var x *Table
	if x.Copy() != nil || len(x.Rows()) != 0 || x.Len() != 0 || x.Pages() != 0 || len(x.Heap().Pages) != 0 {
		t.Error("a nil table has something")
	}
	if !sameSchema(x.Schema(), api.Schema{}) {
		t.Errorf("Schema: %v", x.Schema())
	}
	for r := range x.All() {
		t.Errorf("All: %v", r)
	}
	unfound(t, x)
	unfound(t, x, num(1))
	for _, ch := range [][]api.Many{nil, {}, {comes(1, row(num(1)))}, {goes(1, nil)}, {{}}} {
		for _, pages := range []int{math.MinInt, 0, 9, math.MaxInt} {
			if err := x.Apply(ch, pages); err != api.ErrArg {
				t.Errorf("Apply(%v, %d) = %d", ch, pages, err)
			}
		}
	}
}
