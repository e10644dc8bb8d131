package delta

import (
	"reflect"
	"slices"
	"testing"

	"belvedere/api"
	"belvedere/bag"
)

// spare is l with room behind it, in which something stands.
func spare[T any](more T, l ...T) []T {
	return append(slices.Clone(l), more)[:len(l)]
}

// made is a plan, what was there and changes, all lists with spare room.
func made() (api.Plan, []api.Named, []api.Named) {
	r := func(l ...int) []api.Value { return spare(num(77), ints(l...)...) }
	rows := func(l ...api.Many) []api.Many { return spare(many(9, r(8, 8)), l...) }
	part := func(names ...string) api.Part {
		p := from(2, spare("x", names...)...)
		p.Widths = spare(7, p.Widths...)
		p.Outs = spare(tells(lit(6)), columns(1, 0)...)
		p.Where = api.Test{Kind: api.CAnd, Args: spare(null(lit(1)), compared(api.OpLt, col(0), lit(9)), not(null(col(1))))}
		return p
	}
	p := api.Plan{Parts: spare(api.Part{}, part("t", "u"), part("u", "t", "t"), part("t"), part("u", "none"))}
	old := spare(named("y"), named("t", rows(many(2, r(1, 5)), many(1, r(2, 7)))...), named("u", rows(many(1, r(3, 3)))...), named("none", rows()...), named("t", rows(many(1, r(0, 0)))...))
	ch := spare(named("z"), named("u", rows(many(-1, r(3, 3)), many(1, r(4, 4)))...), named("t", rows(many(-1, r(1, 5)), many(3, r(2, 8)))...), named("t", rows()...), named("u", rows(many(1, r(6, 6)))...))
	return p, old, ch
}

// room is all that the rows of l are, with their spare room.
func room(l []api.Named) [][]api.Value {
	var all [][]api.Value
	for _, n := range l[:cap(l)] {
		for _, m := range n.Rows[:cap(n.Rows)] {
			all = append(all, append([]api.Value{text(n.Name), num(m.N)}, m.Row[:cap(m.Row)]...))
		}
	}
	return all
}

// unchanged holds that what was made is as made tells it.
func unchanged(t *testing.T, p api.Plan, old, ch []api.Named) {
	t.Helper()
	wantP, wantOld, wantCh := made()
	if !reflect.DeepEqual(p, wantP) || !reflect.DeepEqual(old, wantOld) || !reflect.DeepEqual(ch, wantCh) {
		t.Errorf("%+v, %+v, %+v have become %+v, %+v, %+v", wantP, wantOld, wantCh, p, old, ch)
	}
	if !reflect.DeepEqual(room(old), room(wantOld)) || !reflect.DeepEqual(room(ch), room(wantCh)) {
		t.Errorf("the spare room of %+v, %+v has changed", old, ch)
	}
	for i, part := range p.Parts[:cap(p.Parts)] {
		want := wantP.Parts[:cap(wantP.Parts)][i]
		all := func(p api.Part) []any {
			return []any{p.From[:cap(p.From)], p.Widths[:cap(p.Widths)], p.Outs[:cap(p.Outs)], p.Where.Args[:cap(p.Where.Args)]}
		}
		if !reflect.DeepEqual(all(part), all(want)) {
			t.Errorf("the spare room of %+v has changed", part)
		}
	}
}

// TestNothingIsChanged holds rule 3: what is handed in stays as it was, its spare room too, also beside an error.
func TestNothingIsChanged(t *testing.T) {
	p, old, ch := made()
	if got, err := Rows(p, old, ch); err != api.OK || len(got) < 3 {
		t.Fatalf("%+v, %d", got, err)
	}
	unchanged(t, p, old, ch)
	Cost(p, old, ch)
	unchanged(t, p, old, ch)
	Rows(p, ch, old)
	Cost(p, ch, old)
	unchanged(t, p, old, ch)
	for _, wrong := range []api.Plan{{}, planOf(p.Parts[0], from(2, "gone")), planOf(p.Parts[0], once(p.Parts[1])), planOf(p.Parts[2], telling(p.Parts[0], tells(unlike()), tells(past())))} {
		if _, err := Rows(wrong, old, ch); err == api.OK {
			t.Errorf("%+v has no error", wrong)
		}
		unchanged(t, p, old, ch)
	}
}

// TestNewMemory holds rule 3: an answer is new memory, and no two rows of it share any.
func TestNewMemory(t *testing.T) {
	p, old, ch := made()
	got, err := Rows(p, old, ch)
	if err != api.OK {
		t.Fatal(err)
	}
	want := bag.Of(got)
	for i := range got {
		full := got[i].Row[:cap(got[i].Row)]
		for at := range full {
			full[at] = num(-1000 - i)
		}
		got[i].N = -7
		if rest := got[i+1:]; !alikeBags(rest, want[i+1:]) {
			t.Errorf("the row %d shares memory with one behind it", i)
		}
	}
	for i, m := range got {
		if slices.ContainsFunc(m.Row, func(v api.Value) bool { return v != num(-1000-i) }) {
			t.Errorf("the row %d shares memory with one behind it", i)
		}
	}
	unchanged(t, p, old, ch)
	brings(t, p, old, ch, want...)
	// What one part tells alone may be just a row that came.
	whole := planOf(telling(from(2, "t"), columns(0, 1)...))
	got, _ = Rows(whole, old, ch)
	for i := range got {
		clear(got[i].Row)
		clear(got[i : i+1])
	}
	unchanged(t, p, old, ch)
}

// TestAgain holds rule 4: the same call answers the same again, whatever was called between.
func TestAgain(t *testing.T) {
	p, old, ch := made()
	want, err := Rows(p, old, ch)
	cost := Cost(p, old, ch)
	if err != api.OK || cost == 0 {
		t.Fatal(err, cost)
	}
	for range 30 {
		Rows(p, ch, old)
		Rows(planOf(from(2, "t")), nowOf(old, ch), ch)
		brings(t, p, old, ch, want...)
		costs(t, p, old, ch, cost)
	}
}

// TestDeep holds P1 of what is nested as deep as may be, and of very broad conditions.
func TestDeep(t *testing.T) {
	const deep = 1<<16 - 8
	e, c := col(0), null(col(1))
	for range deep {
		e, c = add(e, lit(1)), not(c)
	}
	old := list(named("t", many(2, row(num(1), nothing)), many(1, ints(2, 5))))
	ch := list(named("t", many(-1, row(num(1), nothing)), many(3, row(num(2), nothing)), many(-1, ints(2, 5))))
	brings(t, planOf(where(telling(from(2, "t"), tells(e)), c)), old, ch, many(-1, ints(1+deep)), many(3, ints(2+deep)))
	broad := and(slices.Repeat([]api.Test{same(0, 2), null(col(3)), null(col(1))}, 20000)...)
	brings(t, planOf(where(telling(from(2, "t", "t"), tells(col(2))), broad)), old, ch, many(-3, ints(1)), many(9, ints(2)))
}
