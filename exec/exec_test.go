package exec

import (
	"slices"
	"testing"

	"belvedere/api"
	"belvedere/bag"
	"belvedere/plan"
)

func num(n int) api.Value     { return api.Value{Kind: api.TInt, N: n} }
func held(n int) api.Value    { return api.Value{Kind: api.TBool, N: n} }
func text(s string) api.Value { return api.Value{Kind: api.TText, S: s} }

var nothing = api.Value{}

func row(l ...api.Value) []api.Value { return l }

// ints is a row of numbers.
func ints(l ...int) []api.Value {
	var r []api.Value
	for _, n := range l {
		r = append(r, num(n))
	}
	return r
}

func many(n int, r []api.Value) api.Many { return api.Many{Row: r, N: n} }

func named(name string, l ...api.Many) api.Named { return api.Named{Name: name, Rows: l} }

// sized is a name with that many rows.
func sized(name string, n int) api.Named {
	if n == 0 {
		return named(name)
	}
	return named(name, many(n, ints(1)))
}

func col(at int, args ...api.Calc) api.Calc {
	return api.Calc{Kind: api.EColumn, At: at, Args: args}
}

func val(v api.Value, args ...api.Calc) api.Calc {
	return api.Calc{Kind: api.EValue, Val: v, Args: args}
}

func lit(n int) api.Calc                       { return val(num(n)) }
func calc(kind int, args ...api.Calc) api.Calc { return api.Calc{Kind: kind, Args: args} }
func add(a, b api.Calc) api.Calc               { return calc(api.EAdd, a, b) }
func mul(a, b api.Calc) api.Calc               { return calc(api.EMul, a, b) }
func compared(op int, l, r api.Calc) api.Test {
	return api.Test{Kind: api.CCompare, Op: op, L: l, R: r}
}
func same(a, b int) api.Test            { return compared(api.OpEq, col(a), col(b)) }
func null(l api.Calc) api.Test          { return api.Test{Kind: api.CNull, L: l} }
func some(l api.Calc) api.Test          { return api.Test{Kind: api.CSome, L: l} }
func and(args ...api.Test) api.Test     { return api.Test{Kind: api.CAnd, Args: args} }
func or(args ...api.Test) api.Test      { return api.Test{Kind: api.COr, Args: args} }
func not(c api.Test) api.Test           { return api.Test{Kind: api.CNot, Args: []api.Test{c}} }
func gives(agg int, e api.Calc) api.Out { return api.Out{Agg: agg, E: e} }
func tells(e api.Calc) api.Out          { return gives(api.ANone, e) }
func counts() api.Out                   { return api.Out{Agg: api.ACount} }
func planOf(l ...api.Part) api.Plan     { return api.Plan{Parts: l} }

// columns are Outs that tell those columns.
func columns(places ...int) []api.Out {
	var l []api.Out
	for _, at := range places {
		l = append(l, tells(col(at)))
	}
	return l
}

// from is a part that reads those names, each of that width, and tells its first column.
func from(width int, names ...string) api.Part {
	p := api.Part{From: names, Outs: columns(0)}
	for range names {
		p.Widths = append(p.Widths, width)
	}
	return p
}

// of is a part over t, of two columns, which tells l.
func of(l ...api.Out) api.Part {
	p := from(2, "t")
	p.Outs = l
	return p
}

// where is p with that condition.
func where(p api.Part, c api.Test) api.Part {
	p.Where = c
	return p
}

// telling is p with those Outs.
func telling(p api.Part, l ...api.Out) api.Part {
	p.Outs = l
	return p
}

// by is p with groups by those columns.
func by(p api.Part, places ...int) api.Part {
	p.Group = places
	return p
}

// once is p with Distinct.
func once(p api.Part) api.Part {
	p.Distinct = true
	return p
}

func alikeBags(a, b []api.Many) bool {
	return slices.EqualFunc(a, b, func(a, b api.Many) bool { return a.N == b.N && slices.Equal(a.Row, b.Row) })
}

func alikeRows(a, b [][]api.Value) bool { return slices.EqualFunc(a, b, slices.Equal[[]api.Value]) }

// gathers holds that Run, List and Each tell want of p over l, and that layer 12 tells it too.
func gathers(t *testing.T, p api.Plan, l []api.Named, want ...api.Many) {
	t.Helper()
	told, err := Run(p, l)
	if err != api.OK || !alikeBags(told, want) {
		t.Errorf("Run(%+v, %+v) = %+v, %d, want %+v", p, l, told, err, want)
	}
	rows, err := List(p, l)
	if err != api.OK || !alikeRows(rows, bag.Rows(want)) {
		t.Errorf("List(%+v, %+v) = %+v, %d, want %+v", p, l, rows, err, bag.Rows(want))
	}
	if each := slices.Collect(Each(p, l)); !alikeRows(each, bag.Rows(want)) {
		t.Errorf("Each(%+v, %+v) tells %+v, want %+v", p, l, each, bag.Rows(want))
	}
	if byWord, err := plan.Rows(p, l); err != api.OK || !alikeBags(byWord, want) {
		t.Errorf("Rows(%+v, %+v) = %+v, %d, want %+v", p, l, byWord, err, want)
	}
}

// refused holds that Run and List have that error, without rows, that Each tells none, and that layer 12 has it too.
func refused(t *testing.T, p api.Plan, l []api.Named, want api.Errno) {
	t.Helper()
	if told, err := Run(p, l); err != want || len(told) > 0 {
		t.Errorf("Run(%+v, %+v) = %+v, %d, want %d", p, l, told, err, want)
	}
	if rows, err := List(p, l); err != want || len(rows) > 0 {
		t.Errorf("List(%+v, %+v) = %+v, %d, want %d", p, l, rows, err, want)
	}
	for r := range Each(p, l) {
		t.Errorf("Each(%+v, %+v) tells %+v beside %d", p, l, r, want)
	}
	if _, err := plan.Rows(p, l); err != want {
		t.Errorf("Rows(%+v, %+v): %d, want %d", p, l, err, want)
	}
}

// TestExample holds the chapter's example.
func TestExample(t *testing.T) {
	l := []api.Named{named("t", many(2, ints(1, 5))), named("u", many(1, ints(1)), many(1, ints(2)))}
	p := api.Part{From: []string{"t", "u"}, Widths: []int{2, 1}, Where: same(0, 2), Outs: columns(1)}
	gathers(t, planOf(p), l, many(2, ints(5)))
	rows, err := List(planOf(p), l)
	if err != api.OK || !alikeRows(rows, [][]api.Value{ints(5), ints(5)}) {
		t.Errorf("List = %+v, %d", rows, err)
	}
}

// TestOneSource holds P13.1: what a part that isn't grouped tells of one source.
func TestOneSource(t *testing.T) {
	l := []api.Named{named("t", many(2, row(nothing, num(5))), many(3, ints(1, 5)), many(1, ints(2, 7)), many(4, row(text("a"), held(1))))}
	gathers(t, planOf(of(columns(0, 1)...)), l, l[0].Rows...)
	gathers(t, planOf(of(columns(1, 0)...)), l, many(2, row(num(5), nothing)), many(3, ints(5, 1)), many(1, ints(7, 2)), many(4, row(held(1), text("a"))))
	gathers(t, planOf(of(columns(1)...)), l, many(5, ints(5)), many(1, ints(7)), many(4, row(held(1))))
	gathers(t, planOf(of(tells(lit(4)))), l, many(10, ints(4)))
	sum := of(tells(add(col(0), col(1))))
	gathers(t, planOf(where(sum, compared(api.OpGe, col(1), lit(5)))), l, many(2, row(nothing)), many(3, ints(6)), many(1, ints(9)))
	gathers(t, planOf(where(sum, compared(api.OpGt, col(0), lit(1)))), l, many(1, ints(9)))
	gathers(t, planOf(where(sum, same(0, 1))), l)
	gathers(t, planOf(where(sum, null(col(0)))), l, many(2, row(nothing)))
	gathers(t, planOf(where(sum, null(lit(1)))), l)
	gathers(t, planOf(where(of(columns(0)...), some(lit(1)))), l, many(2, row(nothing)), many(3, ints(1)), many(1, ints(2)), many(4, row(text("a"))))
	gathers(t, planOf(where(sum, api.Test{Kind: 9})), l)
	gathers(t, planOf(sum), []api.Named{named("t")})
	gathers(t, planOf(sum), []api.Named{named("t"), l[0]})
	gathers(t, planOf(of(columns(0)...)), []api.Named{named("u", many(1, ints(1))), l[0], named("t", many(1, ints(9, 9)))}, many(2, row(nothing)), many(3, ints(1)), many(1, ints(2)), many(4, row(text("a"))))
}

// TestGroups holds P13.1: a row for each group, by the values of the group's columns, nothing being one of them.
func TestGroups(t *testing.T) {
	l := []api.Named{named("t", many(2, row(nothing, num(5))), many(1, row(nothing, num(6))), many(3, ints(1, 5)), many(1, row(held(1), num(5))), many(1, row(text("1"), nothing)))}
	gathers(t, planOf(by(of(columns(0)...), 0)), l, many(1, row(nothing)), many(1, ints(1)), many(1, row(held(1))), many(1, row(text("1"))))
	gathers(t, planOf(by(of(tells(col(0)), counts()), 0)), l, many(1, row(nothing, num(3))), many(1, ints(1, 3)), many(1, row(held(1), num(1))), many(1, row(text("1"), num(1))))
	// Unlike groups may tell the same.
	gathers(t, planOf(by(of(counts()), 0)), l, many(2, ints(1)), many(2, ints(3)))
	gathers(t, planOf(once(by(of(counts()), 0))), l, many(1, ints(1)), many(1, ints(3)))
	p := by(of(tells(col(1)), counts(), tells(col(0))), 1, 0)
	gathers(t, planOf(p), l, many(1, row(nothing, num(1), text("1"))), many(1, row(num(5), num(1), held(1))), many(1, row(num(5), num(2), nothing)), many(1, ints(5, 3, 1)), many(1, row(num(6), num(1), nothing)))
	gathers(t, planOf(by(of(columns(1)...), 1, 1, 1, 1)), l, many(1, row(nothing)), many(1, ints(5)), many(1, ints(6)))
	p = by(of(columns(1)...), 1, 0)
	gathers(t, planOf(p), l, many(1, row(nothing)), many(3, ints(5)), many(1, ints(6)))
	gathers(t, planOf(where(p, compared(api.OpEq, col(1), lit(5)))), l, many(3, ints(5)))
	gathers(t, planOf(where(p, compared(api.OpEq, col(1), lit(9)))), l)
	// Values that may not be are told apart as layer 1's order tells them.
	odd := []api.Named{named("t", many(1, row(api.Value{N: -4}, num(1))), many(1, row(nothing, num(2))), many(1, row(api.Value{Kind: api.TInt, S: "a"}, num(3))), many(1, row(api.Value{Kind: api.TInt, S: "b"}, num(4))))}
	gathers(t, planOf(by(of(tells(col(0)), gives(api.ASum, col(1))), 0)), odd, odd[0].Rows...)
}

// TestAggregates holds P13.1, of each aggregate, over rows that are there more than once.
func TestAggregates(t *testing.T) {
	l := []api.Named{named("t", many(2, row(num(1), nothing)), many(3, ints(1, -4)), many(1, ints(1, 6)), many(5, row(num(2), nothing)), many(1, ints(3, 9)))}
	l[0].Rows = bag.Of(l[0].Rows)
	for _, c := range []struct {
		agg  int
		want []api.Value
		all  api.Value
	}{
		{api.ACount, ints(6, 5, 1), num(12)},
		{api.ASome, ints(4, 0, 1), num(5)},
		{api.ASum, row(num(-6), nothing, num(9)), num(3)},
		{api.ATotal, ints(-6, 0, 9), num(3)},
		{api.AMin, row(num(-4), nothing, num(9)), num(-4)},
		{api.AMax, row(num(6), nothing, num(9)), num(9)},
	} {
		p := by(of(tells(col(0)), gives(c.agg, col(1))), 0)
		gathers(t, planOf(p), l, many(1, row(num(1), c.want[0])), many(1, row(num(2), c.want[1])), many(1, row(num(3), c.want[2])))
		gathers(t, planOf(of(gives(c.agg, col(1)))), l, many(1, row(c.all)))
		gathers(t, planOf(where(of(gives(c.agg, col(1))), compared(api.OpEq, col(0), lit(1)))), l, many(1, row(c.want[0])))
	}
	p := of(gives(api.ASum, mul(col(0), col(1))), gives(api.AMin, calc(api.ENeg, col(1))), gives(api.ASome, add(col(0), col(1))), gives(api.ATotal, lit(2)), gives(api.ASum, val(nothing)))
	gathers(t, planOf(p), l, many(1, row(num(21), num(-9), num(5), num(24), nothing)))
	words := []api.Named{named("t", many(1, row(nothing, num(1))), many(1, row(held(1), num(1))), many(2, row(text("a"), num(1))), many(1, row(text("ab"), num(1))))}
	gathers(t, planOf(of(gives(api.AMin, col(0)), gives(api.AMax, col(0)), gives(api.ASome, col(0)))), words, many(1, row(held(1), text("ab"), num(4))))
}

// TestOfNone holds P13.1: without Group all rows are one group, also if there are none; with Group there is none.
func TestOfNone(t *testing.T) {
	all := []api.Out{counts(), gives(api.ASome, col(0)), gives(api.ASum, col(0)), gives(api.ATotal, col(0)), gives(api.AMin, col(0)), gives(api.AMax, col(0))}
	want := many(1, row(num(0), num(0), nothing, num(0), nothing, nothing))
	none, two := []api.Named{named("t"), named("u")}, []api.Named{named("t", many(2, row(nothing)), many(1, ints(1))), named("u")}
	p := telling(from(1, "t"), all...)
	gathers(t, planOf(p), none, want)
	gathers(t, planOf(where(p, null(lit(1)))), two, want)
	p = where(p, compared(api.OpGt, col(0), lit(1)))
	gathers(t, planOf(p), two, want)
	gathers(t, planOf(p, p), two, many(2, want.Row))
	for _, names := range [][]string{{"t", "u"}, {"u", "t"}, {"t", "t", "u"}, {"u", "u"}} {
		p = telling(from(1, names...), all...)
		gathers(t, planOf(p), two, want)
		gathers(t, planOf(where(p, same(0, 1))), two, want)
		gathers(t, planOf(once(p)), two, want)
		gathers(t, planOf(by(p, 0)), two)
		gathers(t, planOf(by(p, 1)), none)
		gathers(t, planOf(telling(p, tells(unlike()))), two)
	}
	// Nothing is reckoned of no rows.
	p = of(gives(api.ASum, unlike()), gives(api.ASome, past()), gives(api.AMin, api.Calc{}))
	gathers(t, planOf(p), none, many(1, row(nothing, num(0), nothing)))
	gathers(t, planOf(of(tells(unlike()), tells(past()))), none)
}

// TestDistinct holds P13.1: with Distinct each row that a part tells is told once, of each part by itself.
func TestDistinct(t *testing.T) {
	l := []api.Named{named("t", many(2, row(nothing, num(1))), many(3, ints(1, 1)), many(1, ints(1, 2)), many(2, ints(2, 1))), named("u", many(4, ints(1)), many(1, ints(3)))}
	p := once(of(columns(1)...))
	gathers(t, planOf(p), l, many(1, ints(1)), many(1, ints(2)))
	gathers(t, planOf(p, p), l, many(2, ints(1)), many(2, ints(2)))
	gathers(t, planOf(p, of(columns(1)...)), l, many(8, ints(1)), many(2, ints(2)))
	gathers(t, planOf(once(of(columns(0)...))), l, many(1, row(nothing)), many(1, ints(1)), many(1, ints(2)))
	gathers(t, planOf(once(of(tells(lit(7))))), l, many(1, ints(7)))
	joined := api.Part{From: []string{"t", "u"}, Widths: []int{2, 1}, Where: same(0, 2), Outs: columns(0)}
	gathers(t, planOf(joined), l, many(16, ints(1)))
	gathers(t, planOf(once(joined)), l, many(1, ints(1)))
	gathers(t, planOf(once(telling(joined, counts()))), l, many(1, ints(16)))
	gathers(t, planOf(once(where(p, null(lit(1))))), l)
}

// TestParts holds P13.1: parts tell together what each tells.
func TestParts(t *testing.T) {
	l := []api.Named{named("t", many(2, ints(1, 5)), many(1, ints(1, 6)), many(3, ints(2, 5)))}
	parts := []api.Part{of(columns(0)...), of(columns(1)...), by(of(counts()), 0), of(gives(api.AMax, col(1))), once(of(columns(0)...)), where(telling(from(2, "t", "t"), columns(1)...), same(0, 2))}
	for _, a := range parts {
		for _, b := range parts {
			for _, c := range parts {
				var sum []api.Many
				for _, p := range []api.Part{a, b, c} {
					rows, _ := Run(planOf(p), l)
					sum = bag.Add(sum, rows)
				}
				gathers(t, planOf(a, b, c), l, sum...)
			}
		}
	}
}

// TestWide holds P13.1 of as many columns, sources, Outs and parts as may be.
func TestWide(t *testing.T) {
	wide := func(n int) []api.Value { return ints(n, n+1, n+2, n+3, n+4, n+5, n+6, n+7) }
	l := []api.Named{named("t", many(2, wide(0))), named("u", many(3, wide(0)), many(1, wide(10))), named("v", many(1, wide(0)), many(4, wide(20)))}
	p := telling(from(8, "t", "u", "v"), columns(0, 7, 8, 15, 16, 23, 3, 12)...)
	p.Where = and(same(7, 15), same(23, 15))
	one := ints(0, 7, 0, 7, 0, 7, 3, 4)
	gathers(t, planOf(p), l, many(6, one))
	gathers(t, planOf(p, p, p, p), l, many(24, one))
	p = by(telling(p, append(columns(0, 7, 8, 15), counts(), gives(api.ASum, col(23)), gives(api.AMin, col(3)), gives(api.AMax, col(12)))...), 0, 7, 8, 15)
	gathers(t, planOf(p, p), l, many(2, ints(0, 7, 0, 7, 6, 42, 3, 4)))
}
