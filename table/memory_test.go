package table

import (
	"reflect"
	"slices"
	"strings"
	"testing"

	"belvedere/api"
)

// spare is l with room behind it, in which something stands.
func spare[T any](more T, l ...T) []T {
	return append(slices.Clone(l), more)[:len(l)]
}

// madeSchema and madeChanges are such as can be done; all lists with spare room.
func madeSchema() api.Schema {
	return api.Schema{Name: "t", Cols: spare(col("z", api.TBool), col("a", api.TInt), col("b", api.TText)), Key: spare(0, 0)}
}

func madeRow(n int, s string) []api.Value { return spare(truth(1), num(n), text(s)) }

func madeChanges() []api.Many {
	return spare(comes(9, madeRow(9, "z")), goes(1, madeRow(1, "x")), comes(1, madeRow(1, "y")), comes(1, madeRow(2, "x")), goes(1, madeRow(3, "x")))
}

// faulty are changes with a fault each, at the end.
func faulty() [][]api.Many {
	var l [][]api.Many
	for _, last := range []api.Many{comes(0, madeRow(5, "x")), goes(1, madeRow(5, "x")), comes(1, spare(nothing, num(5))),
		comes(1, madeRow(5, strings.Repeat("x", 65))), comes(1, spare(nothing, num(5), num(5))), comes(2000, madeRow(5, "x")),
		comes(2, madeRow(5, "x"))} {
		ch := madeChanges()
		l = append(l, spare(comes(9, nil), append(ch, last)...))
	}
	return l
}

// filled is a table for which madeChanges are.
func filled(t *testing.T) *Table {
	t.Helper()
	return made(t, madeSchema(), row(num(1), text("x")), row(num(3), text("x")), row(num(4), text("")))
}

// room is all that v holds, with the spare room of all lists in it.
func room(v reflect.Value) []any {
	var all []any
	switch v.Kind() {
	case reflect.Slice:
		all = append(all, v.Len(), v.Cap())
		full := v.Slice(0, v.Cap())
		for i := range full.Len() {
			all = append(all, room(full.Index(i))...)
		}
	case reflect.Struct:
		for i := range v.NumField() {
			all = append(all, room(v.Field(i))...)
		}
	default:
		all = append(all, v.Interface())
	}
	return all
}

func roomOf(v any) []any { return room(reflect.ValueOf(v)) }

// cells are pointers to all places of all lists in v, with their spare room.
func cells(v reflect.Value) []any {
	var all []any
	switch v.Kind() {
	case reflect.Slice:
		full := v.Slice(0, v.Cap())
		for i := range full.Len() {
			all = append(all, full.Index(i).Addr().Interface())
			all = append(all, cells(full.Index(i))...)
		}
	case reflect.Struct:
		for i := range v.NumField() {
			all = append(all, cells(v.Field(i))...)
		}
	}
	return all
}

// spoil makes all that stands in lists, and in their spare room, nothing.
func spoil(v reflect.Value) {
	switch v.Kind() {
	case reflect.Slice:
		full := v.Slice(0, v.Cap())
		for i := range full.Len() {
			spoil(full.Index(i))
			full.Index(i).SetZero()
		}
	case reflect.Struct:
		for i := range v.NumField() {
			spoil(v.Field(i))
		}
	}
}

// answers are lists that x tells.
func answers(x *Table) []any {
	l := []any{x.Schema(), x.Rows(), x.Heap()}
	for r := range x.All() {
		l = append(l, r)
		f, _ := x.Find(r[:1])
		l = append(l, f)
	}
	return l
}

// TestNothingIsChanged holds rule 3: what is handed in stays as it was, its spare room too.
func TestNothingIsChanged(t *testing.T) {
	s := madeSchema()
	Check(s)
	New(s)
	if !reflect.DeepEqual(roomOf(s), roomOf(madeSchema())) {
		t.Errorf("%+v has changed", s)
	}
	same := faulty()
	for i, ch := range faulty() {
		filled(t).Apply(ch, 9)
		if !reflect.DeepEqual(roomOf(ch), roomOf(same[i])) {
			t.Errorf("%v has changed", ch)
		}
	}
	for _, pages := range []int{0, 9} {
		x, ch := filled(t), madeChanges()
		if err := x.Apply(ch, pages); err != api.OK || !reflect.DeepEqual(roomOf(ch), roomOf(madeChanges())) {
			t.Errorf("%d: %v has changed", err, ch)
		}
	}
	k := spare(truth(1), num(1))
	x := filled(t)
	x.Find(k)
	x.Find(k[:0])
	if !reflect.DeepEqual(roomOf(k), roomOf(spare(truth(1), num(1)))) {
		t.Errorf("%v has changed", k)
	}
}

// TestNothingIsKept holds rule 3: who changes what was handed in changes no table.
func TestNothingIsKept(t *testing.T) {
	s := madeSchema()
	x, err := New(s)
	if err != api.OK {
		t.Fatal(err)
	}
	first := spare(comes(1, nil), comes(1, madeRow(1, "x")), comes(1, madeRow(3, "x")), comes(1, madeRow(4, "")))
	apply(t, x, 9, first...)
	ch := madeChanges()
	apply(t, x, 9, ch...)
	k := row(num(1))
	got, _ := x.Find(k)
	for _, v := range []any{s, first, ch, k} {
		spoil(reflect.ValueOf(v))
	}
	want := filled(t)
	apply(t, want, 9, madeChanges()...)
	if !reflect.DeepEqual(told(x), told(want)) {
		t.Errorf("%v, want %v", told(x), told(want))
	}
	if !slices.Equal(got, row(num(1), text("y"))) {
		t.Errorf("Find: %v", got)
	}
}

// TestNewMemory holds rule 3: answers stand in memory of their own, and no two lists of one share any.
func TestNewMemory(t *testing.T) {
	s, ch := madeSchema(), madeChanges()
	x, _ := New(s)
	apply(t, x, 9, comes(1, madeRow(1, "x")), comes(1, madeRow(3, "x")))
	apply(t, x, 9, ch...)
	all := x.All()
	seen := map[any]bool{}
	once := func(l ...any) {
		t.Helper()
		for _, v := range l {
			for _, cell := range cells(reflect.ValueOf(v)) {
				if seen[cell] {
					t.Fatalf("%+v stands in two lists", cell)
				}
				seen[cell] = true
			}
		}
	}
	once(s, ch)
	for _, o := range []*Table{x, x, x.Copy(), x.Copy().Copy()} {
		once(answers(o)...)
	}
	for range 2 {
		for r := range all {
			once(r)
		}
	}
	for _, o := range []*Table{x, x.Copy()} {
		once(o.schema, o.heap)
		for _, ids := range o.places.Scan("", "") {
			once(ids)
		}
	}
	if len(seen) < 80 {
		t.Errorf("%d cells", len(seen))
	}
}

// TestOftenNewMemory holds rule 3: a row that is there twice is told in two lists.
func TestOftenNewMemory(t *testing.T) {
	x := made(t, pairs())
	apply(t, x, 9, comes(3, row(num(1), text("x"))))
	for r := range x.All() {
		r[0] = nothing
	}
	stands(t, x, slices.Repeat([][]api.Value{row(num(1), text("x"))}, 3)...)
}

// TestGoesItsOwnWay holds rule 3: who changes an answer changes neither the table nor its Copy, nor another answer.
func TestGoesItsOwnWay(t *testing.T) {
	x := filled(t)
	y := x.Copy()
	was, kept := told(x), answers(x)
	for _, o := range []*Table{x, y} {
		for _, v := range answers(o) {
			spoil(reflect.ValueOf(v))
		}
	}
	if !reflect.DeepEqual(told(x), was) || !reflect.DeepEqual(told(y), was) || !reflect.DeepEqual(kept, answers(x)) {
		t.Errorf("%v has become %v, and its Copy %v", was, told(x), told(y))
	}
	apply(t, x, 9, madeChanges()...)
	apply(t, y, 9, madeChanges()...)
	stands(t, x, row(num(1), text("y")), row(num(2), text("x")), row(num(4), text("")))
	stands(t, y, row(num(1), text("y")), row(num(2), text("x")), row(num(4), text("")))
}

// TestAgain holds rule 4: what a table tells hangs on what was done with it alone, whatever others do.
func TestAgain(t *testing.T) {
	want := filled(t)
	apply(t, want, 9, madeChanges()...)
	for range 20 {
		x := filled(t)
		for _, ch := range faulty() {
			x.Apply(ch, 9)
			y := made(t, pairs())
			apply(t, y, 9, comes(3, row(num(7), text("x"))))
		}
		apply(t, x, 9, madeChanges()...)
		if !reflect.DeepEqual(told(x), told(want)) || !reflect.DeepEqual(told(x), told(x)) {
			t.Fatalf("%v, want %v", told(x), told(want))
		}
	}
}
