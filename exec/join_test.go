package exec

import (
	"slices"
	"testing"

	"belvedere/api"
	"belvedere/bag"
)

// sides are all rows of the names' sources side by side.
func sides(names []string, l []api.Named) []api.Many {
	all := []api.Many{{N: 1}}
	for _, name := range names {
		i := slices.IndexFunc(l, func(n api.Named) bool { return n.Name == name })
		var next []api.Many
		for _, a := range all {
			for _, b := range l[i].Rows {
				next = append(next, many(a.N*b.N, slices.Concat(a.Row, b.Row)))
			}
		}
		all = next
	}
	return all
}

// keeps holds that names, of two columns each, joined by c, are just those rows side by side of which want is true, and
// that these are so many.
func keeps(t *testing.T, names []string, c api.Test, l []api.Named, n int, want func(r []api.Value) bool) {
	t.Helper()
	p := where(from(2, names...), c)
	p.Outs = nil
	for at := range 2 * len(names) {
		p.Outs = append(p.Outs, tells(col(at)))
	}
	rows := bag.Of(slices.DeleteFunc(sides(names, l), func(m api.Many) bool { return !want(m.Row) }))
	if bag.Count(rows) != n {
		t.Errorf("%+v keeps %d rows, not %d", c, bag.Count(rows), n)
	}
	gathers(t, planOf(p), l, rows...)
	gathers(t, planOf(telling(p, counts())), l, many(1, ints(n)))
}

// TestSideBySide holds P13.1: without a comparison sources stand side by side in their order, as often as their
// numbers, multiplied.
func TestSideBySide(t *testing.T) {
	l := []api.Named{named("t", many(2, ints(1, 10)), many(3, ints(2, 20))), named("u", many(5, ints(1)), many(1, ints(3))), named("v", many(7, ints(2))), named("none")}
	p := api.Part{From: []string{"t", "u"}, Widths: []int{2, 1}, Outs: columns(0, 1, 2)}
	gathers(t, planOf(p), l, many(10, ints(1, 10, 1)), many(2, ints(1, 10, 3)), many(15, ints(2, 20, 1)), many(3, ints(2, 20, 3)))
	gathers(t, planOf(where(p, compared(api.OpLt, col(0), col(2)))), l, many(2, ints(1, 10, 3)), many(3, ints(2, 20, 3)))
	gathers(t, planOf(where(p, compared(api.OpNe, col(0), col(2)))), l, many(2, ints(1, 10, 3)), many(15, ints(2, 20, 1)), many(3, ints(2, 20, 3)))
	p = api.Part{From: []string{"u", "t"}, Widths: []int{1, 2}, Outs: columns(0, 1, 2)}
	gathers(t, planOf(p), l, many(10, ints(1, 1, 10)), many(15, ints(1, 2, 20)), many(2, ints(3, 1, 10)), many(3, ints(3, 2, 20)))
	p = api.Part{From: []string{"u", "v", "t"}, Widths: []int{1, 1, 2}, Outs: columns(1, 3, 0)}
	gathers(t, planOf(p), l, many(70, ints(2, 10, 1)), many(14, ints(2, 10, 3)), many(105, ints(2, 20, 1)), many(21, ints(2, 20, 3)))
	p = api.Part{From: []string{"t", "v", "u"}, Widths: []int{2, 1, 1}, Outs: columns(0, 1, 2, 3)}
	gathers(t, planOf(p), l, many(70, ints(1, 10, 2, 1)), many(14, ints(1, 10, 2, 3)), many(105, ints(2, 20, 2, 1)), many(21, ints(2, 20, 2, 3)))
	for _, names := range [][]string{{"none"}, {"none", "u"}, {"u", "none"}, {"u", "none", "v"}, {"u", "u", "none"}} {
		gathers(t, planOf(from(1, names...)), l)
		gathers(t, planOf(where(from(1, names...), same(0, len(names)-1))), l)
	}
}

// twoSources are t and u, of two columns each.
func twoSources() ([]string, []api.Named) {
	return []string{"t", "u"}, []api.Named{
		named("t", many(1, ints(1, 10)), many(2, ints(1, 20)), many(3, ints(2, 20)), many(1, ints(3, 3))),
		named("u", many(1, ints(1, 2)), many(5, ints(2, 3)), many(7, ints(2, 20)), many(1, ints(4, 4))),
	}
}

// TestJoinByOne holds P13.1: a comparison for sameness, whichever of both sides is ahead.
func TestJoinByOne(t *testing.T) {
	names, l := twoSources()
	p := where(telling(from(2, names...), columns(0, 1, 2, 3)...), same(0, 2))
	gathers(t, planOf(p), l, many(1, ints(1, 10, 1, 2)), many(2, ints(1, 20, 1, 2)), many(15, ints(2, 20, 2, 3)), many(21, ints(2, 20, 2, 20)))
	for _, c := range []struct{ a, b, n int }{{0, 2, 39}, {1, 3, 40}, {0, 3, 8}, {1, 2, 0}, {0, 1, 14}, {2, 3, 7}, {0, 0, 98}, {3, 3, 98}} {
		want := func(r []api.Value) bool { return r[c.a] == r[c.b] }
		keeps(t, names, same(c.a, c.b), l, c.n, want)
		keeps(t, names, same(c.b, c.a), l, c.n, want)
		keeps(t, names, and(same(c.a, c.b)), l, c.n, want)
		keeps(t, names, and(api.Test{}, and(and(), and(same(c.b, c.a)))), l, c.n, want)
		keeps(t, names, not(not(same(c.a, c.b))), l, c.n, want)
		keeps(t, names, or(same(c.a, c.b)), l, c.n, want)
		keeps(t, names, not(same(c.a, c.b)), l, 98-c.n, func(r []api.Value) bool { return !want(r) })
	}
	// Fields that the Kinds don't name don't count.
	odd := same(0, 2)
	odd.L.Val, odd.L.Args, odd.R.Args, odd.Args = num(8), []api.Calc{col(3), lit(1)}, []api.Calc{unlike()}, []api.Test{null(lit(1)), null(col(1))}
	keeps(t, names, odd, l, 39, func(r []api.Value) bool { return r[0] == r[2] })
	// What is reckoned is nothing in a condition, whatever stands in fields that don't count.
	sum, two := add(col(2), lit(0)), val(num(2), col(2))
	sum.At, two.At = 2, 2
	keeps(t, names, compared(api.OpEq, col(0), sum), l, 0, func([]api.Value) bool { return false })
	keeps(t, names, compared(api.OpEq, sum, col(0)), l, 0, func([]api.Value) bool { return false })
	keeps(t, names, compared(api.OpEq, col(0), two), l, 42, func(r []api.Value) bool { return r[0] == num(2) })
	keeps(t, names, compared(api.OpEq, two, col(0)), l, 42, func(r []api.Value) bool { return r[0] == num(2) })
}

// TestJoinBySeveral holds P13.1: comparisons for sameness, all of which must hold, and others beside them.
func TestJoinBySeveral(t *testing.T) {
	names, l := []string{"t", "u"}, []api.Named{
		named("t", many(1, row(num(2), nothing)), many(1, ints(1, 1)), many(2, ints(1, 2)), many(3, ints(2, 1))),
		named("u", many(4, row(num(2), nothing)), many(5, ints(1, 1)), many(7, ints(1, 2)), many(2, ints(2, 1))),
	}
	for _, n := range l {
		slices.SortFunc(n.Rows, func(a, b api.Many) int { return slices.CompareFunc(a.Row, b.Row, order) })
	}
	whole := func(r []api.Value) bool { return r[0] == r[2] && r[1] == r[3] && r[1] != nothing }
	first := func(r []api.Value) bool { return r[0] == r[2] }
	keeps(t, names, and(same(0, 2), same(1, 3)), l, 25, whole)
	keeps(t, names, and(same(3, 1), same(0, 2)), l, 25, whole)
	keeps(t, names, and(same(1, 3), and(same(2, 0), same(0, 2))), l, 25, whole)
	keeps(t, names, and(same(0, 2), same(0, 3)), l, 15, func(r []api.Value) bool { return r[0] == r[2] && r[0] == r[3] })
	keeps(t, names, and(same(0, 2), same(1, 2)), l, 12, func(r []api.Value) bool { return r[0] == r[2] && r[1] == r[2] })
	keeps(t, names, and(same(0, 2), same(1, 3), compared(api.OpLt, col(0), col(3))), l, 14, func(r []api.Value) bool { return whole(r) && r[0].N < r[3].N })
	keeps(t, names, and(compared(api.OpEq, col(3), lit(1)), same(0, 2), compared(api.OpEq, col(1), lit(2))), l, 10, func(r []api.Value) bool { return first(r) && r[1].N == 2 && r[3].N == 1 })
	keeps(t, names, and(same(0, 2), null(col(3))), l, 16, func(r []api.Value) bool { return first(r) && r[3] == nothing })
	keeps(t, names, and(same(0, 2), or(null(col(1)), null(col(3)))), l, 18, func(r []api.Value) bool { return first(r) && (r[1] == nothing || r[3] == nothing) })
	// More comparisons than there are columns, alike and unlike.
	keeps(t, names, and(slices.Repeat([]api.Test{same(0, 2)}, 20)...), l, 60, first)
	keeps(t, names, and(append(slices.Repeat([]api.Test{same(0, 2), same(2, 0)}, 6), same(1, 3))...), l, 25, whole)
	keeps(t, names, and(append(slices.Repeat([]api.Test{same(0, 2)}, 30), same(0, 3), same(1, 3))...), l, 5, func(r []api.Value) bool { return whole(r) && r[0] == r[3] })
}

// order is that of values that may be.
func order(a, b api.Value) int {
	if a.Kind != b.Kind {
		return a.Kind - b.Kind
	}
	return a.N - b.N
}

// TestJoinOfNothing holds P13.1: nothing is the same as nothing else, nor as itself, whichever side it stands on.
func TestJoinOfNothing(t *testing.T) {
	nought := api.Value{Kind: api.TAny, N: 4}
	names, l := []string{"t", "u"}, []api.Named{
		named("t", many(2, row(nothing, nothing)), many(1, row(nothing, num(0))), many(3, row(nought, nothing)), many(1, ints(0, 0))),
		named("u", many(2, row(nothing, nothing)), many(5, row(nothing, num(0))), many(1, row(nought, num(0))), many(1, ints(0, 0)), many(1, row(text(""), nothing))),
	}
	for _, c := range []struct{ a, b, n int }{{0, 2, 1}, {1, 3, 14}, {0, 3, 7}, {1, 2, 2}} {
		want := func(r []api.Value) bool { return r[c.a] == r[c.b] && r[c.a].Kind != api.TAny }
		keeps(t, names, same(c.a, c.b), l, c.n, want)
		keeps(t, names, same(c.b, c.a), l, c.n, want)
	}
	keeps(t, names, and(same(0, 2), same(1, 3)), l, 1, func(r []api.Value) bool { return r[0] == num(0) && r[2] == num(0) })
	keeps(t, names, and(same(0, 2), null(col(0))), l, 0, func([]api.Value) bool { return false })
	keeps(t, names, not(same(1, 3)), l, 0, func([]api.Value) bool { return false })
	keeps(t, names, or(same(0, 2), null(col(1))), l, 51, func(r []api.Value) bool { return r[1].Kind == api.TAny || r[0] == num(0) && r[2] == num(0) })
}

// TestJoinOfUnlike holds P13.1: values of unlike Kinds are neither the same nor not, and those of one Kind are the same
// if all of them is.
func TestJoinOfUnlike(t *testing.T) {
	values := []api.Value{{Kind: -1, N: 1}, num(0), num(1), {Kind: api.TInt, N: 1, S: "1"}, held(0), held(1), text(""), text("1"), text("a"), {Kind: 9, N: 1}}
	var rows []api.Many
	for _, v := range values {
		rows = append(rows, many(1, row(v, num(1))))
	}
	names, l := []string{"t", "t"}, []api.Named{named("t", rows...)}
	keeps(t, names, same(0, 2), l, len(values), func(r []api.Value) bool { return r[0] == r[2] })
	keeps(t, names, not(same(2, 0)), l, 14, func(r []api.Value) bool { return r[0].Kind == r[2].Kind && r[0] != r[2] })
	keeps(t, names, same(0, 3), l, 10, func(r []api.Value) bool { return r[0] == num(1) })
	keeps(t, names, and(same(0, 2), same(1, 2)), l, 1, func(r []api.Value) bool { return r[0] == num(1) && r[2] == num(1) })
}

// TestThreeSources holds P13.1: joins of three, in a row, round, by the first one, and across the middle one.
func TestThreeSources(t *testing.T) {
	names, l := twoSources()
	names, l = append(names, "v"), append(l, named("v", many(1, ints(1, 3)), many(2, ints(2, 2)), many(1, ints(2, 3)), many(1, ints(3, 20)), many(1, ints(20, 1)), many(4, ints(20, 2))))
	keeps(t, names, and(same(0, 2), same(3, 4)), l, 129, func(r []api.Value) bool { return r[0] == r[2] && r[3] == r[4] })
	keeps(t, names, and(same(3, 4), same(2, 0)), l, 129, func(r []api.Value) bool { return r[0] == r[2] && r[3] == r[4] })
	keeps(t, names, and(same(0, 2), same(0, 4)), l, 111, func(r []api.Value) bool { return r[0] == r[2] && r[0] == r[4] })
	keeps(t, names, and(same(0, 2), same(3, 5), same(4, 1)), l, 8, func(r []api.Value) bool { return r[0] == r[2] && r[3] == r[5] && r[4] == r[1] })
	keeps(t, names, and(same(0, 2), same(3, 5), same(0, 4)), l, 15, func(r []api.Value) bool { return r[0] == r[2] && r[3] == r[5] && r[0] == r[4] })
	keeps(t, names, same(1, 5), l, 98, func(r []api.Value) bool { return r[1] == r[5] })
	keeps(t, names, same(2, 4), l, 259, func(r []api.Value) bool { return r[2] == r[4] })
	keeps(t, names, and(same(0, 4), same(2, 4)), l, 111, func(r []api.Value) bool { return r[0] == r[4] && r[2] == r[4] })
	less := func(a, b int) api.Test { return compared(api.OpLt, col(a), col(b)) }
	keeps(t, names, and(less(0, 3), same(3, 5), less(4, 1)), l, 108, func(r []api.Value) bool { return r[0].N < r[3].N && r[3] == r[5] && r[4].N < r[1].N })
	keeps(t, names, or(same(0, 5), and(same(1, 3), same(3, 5))), l, 357, func(r []api.Value) bool { return r[0] == r[5] || r[1] == r[3] && r[3] == r[5] })
	// A name that is read twice, or three times, is a source each time.
	keeps(t, []string{"u", "u"}, same(0, 2), l, 146, func(r []api.Value) bool { return r[0] == r[2] })
	keeps(t, []string{"u", "u"}, same(0, 3), l, 13, func(r []api.Value) bool { return r[0] == r[3] })
	keeps(t, []string{"t", "v", "t"}, and(same(0, 2), same(4, 2), less(1, 5)), l, 2, func(r []api.Value) bool { return r[0] == r[2] && r[4] == r[2] && r[1].N < r[5].N })
	keeps(t, []string{"v", "v", "v"}, and(same(1, 2), same(3, 4)), l, 66, func(r []api.Value) bool { return r[1] == r[2] && r[3] == r[4] })
}

// TestConditions holds P13.1: conditions that read one source alone, the first, the second, both, or none, under and,
// or and not, as the whole condition says.
func TestConditions(t *testing.T) {
	names, l := twoSources()
	is := func(at, n int) api.Test { return compared(api.OpEq, col(at), lit(n)) }
	keeps(t, names, is(0, 2), l, 42, func(r []api.Value) bool { return r[0].N == 2 })
	keeps(t, names, is(3, 20), l, 49, func(r []api.Value) bool { return r[3].N == 20 })
	keeps(t, names, and(is(3, 20), is(0, 2)), l, 21, func(r []api.Value) bool { return r[0].N == 2 && r[3].N == 20 })
	keeps(t, names, or(is(3, 20), is(0, 2)), l, 70, func(r []api.Value) bool { return r[0].N == 2 || r[3].N == 20 })
	keeps(t, names, not(and(is(3, 20), is(0, 2))), l, 77, func(r []api.Value) bool { return r[0].N != 2 || r[3].N != 20 })
	keeps(t, names, not(or(is(3, 20), is(0, 2))), l, 28, func(r []api.Value) bool { return r[0].N != 2 && r[3].N != 20 })
	keeps(t, names, and(same(0, 2), not(is(3, 20)), or(is(1, 10), is(1, 20))), l, 18, func(r []api.Value) bool {
		return r[0] == r[2] && r[3].N != 20 && (r[1].N == 10 || r[1].N == 20)
	})
	keeps(t, names, or(same(0, 2), same(1, 3)), l, 58, func(r []api.Value) bool { return r[0] == r[2] || r[1] == r[3] })
	keeps(t, names, and(same(2, 3), same(0, 1)), l, 1, func(r []api.Value) bool { return r[0] == r[1] && r[2] == r[3] })
	yes, no, open := some(lit(1)), null(lit(1)), compared(api.OpEq, lit(1), val(nothing))
	every, never := func([]api.Value) bool { return true }, func([]api.Value) bool { return false }
	for _, c := range []api.Test{{}, yes, and(), and(yes, yes), not(no), or(no, yes), or(open, yes), compared(api.OpLe, lit(1), lit(1))} {
		keeps(t, names, c, l, 98, every)
		keeps(t, names, and(c, same(0, 2)), l, 39, func(r []api.Value) bool { return r[0] == r[2] })
	}
	for _, c := range []api.Test{no, open, not(open), or(), not(yes), and(yes, no), and(open, yes), {Kind: 7}, {Kind: -1}, {Kind: api.CNot}, compared(9, lit(1), lit(1)), compared(api.OpEq, lit(1), lit(2)), compared(api.OpEq, lit(1), val(held(1)))} {
		keeps(t, names, c, l, 0, never)
		keeps(t, names, and(same(0, 2), c), l, 0, never)
		keeps(t, names, and(is(3, 20), c), l, 0, never)
	}
}

// TestJoinsFarFewer holds that a comparison joins without looking at all rows side by side, and that conditions are
// asked ahead of it: there are more of them than anyone could look at.
func TestJoinsFarFewer(t *testing.T) {
	const n = 50000
	var rows []api.Many
	for i := range n {
		rows = append(rows, many(1, ints(i, i%2)))
	}
	l := []api.Named{named("t", rows...)}
	last := func(at int) api.Test { return compared(api.OpGe, col(at), lit(n-3)) }
	for _, c := range []struct {
		where api.Test
		want  int
	}{
		{and(same(0, 2), same(2, 4)), n},
		{and(same(2, 0), same(4, 0)), n},
		{and(same(0, 2), same(4, 2), same(1, 3), same(3, 5)), n},
		{and(same(1, 3), same(0, 2), same(1, 5), same(0, 4)), n},
		{and(same(1, 3), last(0), last(2), same(4, 0)), 5},
		{and(last(4), last(2), last(0)), 27},
		{and(last(2), last(4), or(same(1, 3), null(col(0)))), n * 9 / 2},
		{and(last(0), last(2), or(last(4), null(col(4))), same(1, 3)), 15},
		{null(lit(1)), 0},
		{and(null(col(5)), same(0, 1), same(2, 3)), 0},
	} {
		met := 0
		for range kept(where(from(2, "t", "t", "t"), c.where), l) {
			met++
		}
		if met != c.want {
			t.Errorf("%+v keeps %d rows, want %d", c.where, met, c.want)
		}
	}
}

// TestFlowStops holds that rows flow one by one, till whoever asks stops: of all of them there are more than anyone
// could wait for.
func TestFlowStops(t *testing.T) {
	var rows []api.Many
	for i := range 20000 {
		rows = append(rows, many(1, ints(i, i%2)))
	}
	l := []api.Named{named("t", rows...)}
	for _, c := range []api.Test{{}, same(1, 3), and(same(1, 3), same(3, 5)), compared(api.OpLe, col(0), col(4))} {
		for _, most := range []int{1, 2, 1000} {
			met := 0
			for range kept(where(from(2, "t", "t", "t"), c), l) {
				if met++; met == most {
					break
				}
			}
			if met != most {
				t.Errorf("%+v: %d rows, want %d", c, met, most)
			}
		}
	}
	for _, p := range []api.Part{from(2, "t"), by(from(2, "t"), 0), telling(from(2, "t"), counts())} {
		met := 0
		for range groups(p, kept(p, l)) {
			met++
			break
		}
		if met != 1 {
			t.Errorf("%+v: %d groups", p, met)
		}
	}
}
