package delta

import (
	"slices"
	"testing"

	"belvedere/api"
	"belvedere/bag"
	"belvedere/plan"
)

func num(n int) api.Value     { return api.Value{Kind: api.TInt, N: n} }
func held(n int) api.Value    { return api.Value{Kind: api.TBool, N: n} }
func text(s string) api.Value { return api.Value{Kind: api.TText, S: s} }

var nothing = api.Value{}

func row(l ...api.Value) []api.Value { return l }

// ints is a row of numbers.
func ints(l ...int) []api.Value {
	var r []api.Value
	for _, n := range l {
		r = append(r, num(n))
	}
	return r
}

func many(n int, r []api.Value) api.Many { return api.Many{Row: r, N: n} }

func named(name string, l ...api.Many) api.Named { return api.Named{Name: name, Rows: l} }

// sized is a name with that many rows, below 0 that go.
func sized(name string, n int) api.Named {
	if n == 0 {
		return named(name)
	}
	return named(name, many(n, ints(1)))
}

func list(l ...api.Named) []api.Named { return l }

func col(at int) api.Calc                      { return api.Calc{Kind: api.EColumn, At: at} }
func val(v api.Value) api.Calc                 { return api.Calc{Kind: api.EValue, Val: v} }
func lit(n int) api.Calc                       { return val(num(n)) }
func calc(kind int, args ...api.Calc) api.Calc { return api.Calc{Kind: kind, Args: args} }
func add(a, b api.Calc) api.Calc               { return calc(api.EAdd, a, b) }
func mul(a, b api.Calc) api.Calc               { return calc(api.EMul, a, b) }
func compared(op int, l, r api.Calc) api.Test {
	return api.Test{Kind: api.CCompare, Op: op, L: l, R: r}
}
func same(a, b int) api.Test            { return compared(api.OpEq, col(a), col(b)) }
func null(l api.Calc) api.Test          { return api.Test{Kind: api.CNull, L: l} }
func and(args ...api.Test) api.Test     { return api.Test{Kind: api.CAnd, Args: args} }
func not(c api.Test) api.Test           { return api.Test{Kind: api.CNot, Args: []api.Test{c}} }
func gives(agg int, e api.Calc) api.Out { return api.Out{Agg: agg, E: e} }
func tells(e api.Calc) api.Out          { return gives(api.ANone, e) }
func planOf(l ...api.Part) api.Plan     { return api.Plan{Parts: l} }

// columns are Outs that tell those columns.
func columns(places ...int) []api.Out {
	var l []api.Out
	for _, at := range places {
		l = append(l, tells(col(at)))
	}
	return l
}

// from is a part that reads those names, each of that width, and tells its first column.
func from(width int, names ...string) api.Part {
	p := api.Part{From: names, Outs: columns(0)}
	for range names {
		p.Widths = append(p.Widths, width)
	}
	return p
}

func where(p api.Part, c api.Test) api.Part {
	p.Where = c
	return p
}

func telling(p api.Part, l ...api.Out) api.Part {
	p.Outs = l
	return p
}

func by(p api.Part, places ...int) api.Part {
	p.Group = places
	return p
}

func once(p api.Part) api.Part {
	p.Distinct = true
	return p
}

func alikeBags(a, b []api.Many) bool {
	return slices.EqualFunc(a, b, func(a, b api.Many) bool { return a.N == b.N && slices.Equal(a.Row, b.Row) })
}

// nowOf is each name of old with its changes added.
func nowOf(old, ch []api.Named) []api.Named {
	var now []api.Named
	for _, n := range old {
		i := slices.IndexFunc(ch, func(c api.Named) bool { return c.Name == n.Name })
		if i >= 0 {
			n.Rows = bag.Add(n.Rows, ch[i].Rows)
		}
		now = append(now, n)
	}
	return now
}

// brings holds that want comes and goes, and that layer 12 tells just that more of what is there now.
func brings(t *testing.T, p api.Plan, old, ch []api.Named, want ...api.Many) {
	t.Helper()
	got, err := Rows(p, old, ch)
	if err != api.OK || !alikeBags(got, want) {
		t.Errorf("Rows(%+v, %+v, %+v) = %+v, %d, want %+v", p, old, ch, got, err, want)
	}
	told, errOld := plan.Rows(p, old)
	toldNow, errNow := plan.Rows(p, nowOf(old, ch))
	if errOld == api.OK && errNow == api.OK && !alikeBags(bag.Add(told, want), toldNow) {
		t.Errorf("%+v over %+v tells %+v, with the changes %+v it tells %+v", p, old, told, want, toldNow)
	}
}

// refused holds that there is that error, and no rows beside it.
func refused(t *testing.T, p api.Plan, old, ch []api.Named, want api.Errno) {
	t.Helper()
	if got, err := Rows(p, old, ch); err != want || len(got) > 0 {
		t.Errorf("Rows(%+v, %+v, %+v) = %+v, %d, want %d", p, old, ch, got, err, want)
	}
}

// TestExample holds the chapter's example.
func TestExample(t *testing.T) {
	old := list(named("t", many(1, ints(1))), named("u", many(1, ints(1))))
	ch := list(named("t", many(-1, ints(1)), many(1, ints(2))))
	p := planOf(where(from(1, "t", "u"), compared(api.OpLe, col(1), col(0))))
	brings(t, p, old, ch, many(-1, ints(1)), many(1, ints(2)))
	costs(t, p, old, ch, 2)
}

// TestOneSource holds P14.1: of one source what its changes make.
func TestOneSource(t *testing.T) {
	old := list(named("t", many(2, ints(1, 5)), many(3, ints(2, 7)), many(1, row(text("a"), nothing))))
	for _, c := range []struct{ ch, want []api.Many }{
		{[]api.Many{many(1, ints(3, 9))}, []api.Many{many(1, ints(9, 3))}},
		{[]api.Many{many(4, ints(1, 5))}, []api.Many{many(4, ints(5, 1))}},
		{[]api.Many{many(-1, ints(1, 5))}, []api.Many{many(-1, ints(5, 1))}},
		{[]api.Many{many(-2, ints(1, 5))}, []api.Many{many(-2, ints(5, 1))}},
		{[]api.Many{many(-1, row(text("a"), nothing))}, []api.Many{many(-1, row(nothing, text("a")))}},
		{[]api.Many{many(-2, ints(1, 5)), many(2, ints(1, 6)), many(-3, ints(2, 7))}, []api.Many{many(-2, ints(5, 1)), many(2, ints(6, 1)), many(-3, ints(7, 2))}},
		{[]api.Many{many(1, row(held(1), api.Value{Kind: -7, N: 1, S: "x"}))}, []api.Many{many(1, row(api.Value{Kind: -7, N: 1, S: "x"}, held(1)))}},
	} {
		brings(t, planOf(telling(from(2, "t"), columns(1, 0)...)), old, list(named("t", c.ch...)), c.want...)
	}
	// What comes and goes of a row may be the same in what is told.
	ch := list(named("t", many(-2, ints(1, 5)), many(2, ints(1, 6)), many(-1, ints(2, 7)), many(3, ints(2, 8))))
	brings(t, planOf(from(2, "t")), old, ch, many(2, ints(2)))
	brings(t, planOf(telling(from(2, "t"), tells(lit(4)), tells(val(nothing)))), old, ch, many(2, row(num(4), nothing)))
	brings(t, planOf(telling(from(2, "t"), tells(add(col(0), col(1))))), old, ch, many(-2, ints(6)), many(2, ints(7)), many(-1, ints(9)), many(3, ints(10)))
}

// TestWhere holds P14.1: only net rows count for which the condition is True.
func TestWhere(t *testing.T) {
	old := list(named("t", many(2, ints(1, 5)), many(3, row(num(2), nothing))))
	ch := list(named("t", many(-2, ints(1, 5)), many(1, ints(1, 9)), many(-1, row(num(2), nothing)), many(1, row(num(3), nothing))))
	p := telling(from(2, "t"), columns(0, 1)...)
	gone, come := many(-2, ints(1, 5)), many(1, ints(1, 9))
	brings(t, planOf(where(p, compared(api.OpGt, col(1), lit(6)))), old, ch, come)
	brings(t, planOf(where(p, compared(api.OpLt, col(1), lit(6)))), old, ch, gone)
	brings(t, planOf(where(p, not(compared(api.OpLt, col(1), lit(6))))), old, ch, come)
	brings(t, planOf(where(p, compared(api.OpGt, col(1), lit(0)))), old, ch, gone, come)
	brings(t, planOf(where(p, null(col(1)))), old, ch, many(-1, row(num(2), nothing)), many(1, row(num(3), nothing)))
	brings(t, planOf(where(p, and(null(col(1)), compared(api.OpEq, col(0), lit(3))))), old, ch, many(1, row(num(3), nothing)))
	brings(t, planOf(where(p, null(lit(1)))), old, ch)
	brings(t, planOf(where(p, api.Test{Kind: 9})), old, ch)
	// A row that is not told goes, one that is told comes.
	brings(t, planOf(where(from(2, "t"), compared(api.OpEq, col(1), lit(9)))), old, ch, many(1, ints(1)))
}

// TestNoChanges holds P14.3 and P14.1: without changes of what a part reads nothing comes or goes.
func TestNoChanges(t *testing.T) {
	old := list(named("t", many(2, ints(1, 5)), many(1, ints(2, 7))), named("u", many(3, ints(1, 1))), named("none"))
	for _, ch := range [][]api.Named{
		nil, {}, {named("t")}, {named("t"), named("u"), named("none")}, {named("x", many(1, ints(1, 2)))}, {named("", many(-1, ints(4)))},
		{named("x", many(-5, ints(1)))}, {named("T", many(1, ints(1, 2)))}, {named("t"), named("t", many(1, ints(9, 9)))},
		{named("x", many(1, ints(1))), named("t"), named("t", many(-2, ints(1, 5)))},
	} {
		for _, p := range []api.Plan{
			planOf(from(2, "t")), planOf(from(2, "t", "u")), planOf(from(2, "u", "t", "t")), planOf(from(2, "none")), planOf(from(2, "none", "t")),
			planOf(from(2, "t"), from(2, "u"), from(2, "t", "t")), planOf(where(from(2, "t", "u"), same(0, 2))), planOf(telling(from(2, "t"), tells(past()))),
		} {
			brings(t, p, old, ch)
			costs(t, p, old, ch, 0)
		}
	}
	// Of names that p doesn't read the changes needn't fit.
	ch := list(named("u", many(-9, ints(1, 1)), many(1, ints(1, 1, 1))), named("none", many(-1, ints(1, 2))))
	brings(t, planOf(from(2, "t")), old, ch)
	costs(t, planOf(from(2, "t")), old, ch, 0)
}

// TestFirstCounts holds P14.1: of several changes of one name, and of several of one name that are there, the first
// count.
func TestFirstCounts(t *testing.T) {
	old := list(named("t", many(1, ints(1))), named("t", many(1, ints(2))), named("u", many(2, ints(5))), named("t", many(-7, nil)))
	ch := list(named("u", many(1, ints(6))), named("t", many(1, ints(3))), named("t", many(-1, ints(1))), named("u", many(-2, ints(5))), named("t", many(9, ints(9, 9))))
	brings(t, planOf(from(1, "t")), old, ch, many(1, ints(3)))
	brings(t, planOf(from(1, "u")), old, ch, many(1, ints(6)))
	brings(t, planOf(telling(from(1, "t", "u"), columns(0, 1)...)), old, ch, many(1, ints(1, 6)), many(2, ints(3, 5)), many(1, ints(3, 6)))
	costs(t, planOf(from(1, "t", "u")), old, ch, 4)
	refused(t, planOf(from(1, "t")), old, list(named("t", many(-1, ints(2)))), api.ErrArg)
	refused(t, planOf(from(1, "t")), old, list(named("t", many(-1, ints(2))), named("t", many(1, ints(2)))), api.ErrArg)
}

// TestSideBySide holds P14.1: net rows of sources side by side, whose numbers multiply, those below 0 too.
func TestSideBySide(t *testing.T) {
	old := list(named("t", many(2, ints(1)), many(3, ints(2))), named("u", many(5, ints(7)), many(1, ints(8))), named("none"))
	both := telling(from(1, "t", "u"), columns(0, 1)...)
	come, gone := list(named("t", many(4, ints(3)))), list(named("t", many(-1, ints(1)), many(-3, ints(2))))
	brings(t, planOf(both), old, come, many(20, ints(3, 7)), many(4, ints(3, 8)))
	brings(t, planOf(both), old, gone, many(-5, ints(1, 7)), many(-1, ints(1, 8)), many(-15, ints(2, 7)), many(-3, ints(2, 8)))
	brings(t, planOf(telling(from(1, "u", "t"), columns(0, 1)...)), old, come, many(20, ints(7, 3)), many(4, ints(8, 3)))
	brings(t, planOf(both), old, list(named("u", many(-1, ints(8)), many(1, ints(9)))), many(-2, ints(1, 8)), many(2, ints(1, 9)), many(-3, ints(2, 8)), many(3, ints(2, 9)))
	// Of both there are 1 and 7 twice as often as there was, so four times, and all of 2 and of 8 is gone.
	of := list(named("t", many(2, ints(1)), many(-3, ints(2))), named("u", many(5, ints(7)), many(-1, ints(8))))
	brings(t, planOf(both), old, of, many(30, ints(1, 7)), many(-2, ints(1, 8)), many(-15, ints(2, 7)), many(-3, ints(2, 8)))
	costs(t, planOf(both), old, of, 5*10+5*6)
	// Where all goes, all that was told goes, once.
	all := list(named("t", bag.Turn(old[0].Rows)...), named("u", bag.Turn(old[1].Rows)...))
	brings(t, planOf(both), old, all, many(-10, ints(1, 7)), many(-2, ints(1, 8)), many(-15, ints(2, 7)), many(-3, ints(2, 8)))
	brings(t, planOf(both), nowOf(old, all), list(named("t", many(1, ints(1))), named("u", many(1, ints(2)))), many(1, ints(1, 2)))
	brings(t, planOf(where(both, same(0, 1))), old, list(named("t", many(1, ints(8))), named("u", many(2, ints(2)))), many(6, ints(2, 2)), many(1, ints(8, 8)))
	for _, names := range [][]string{{"t", "none"}, {"none", "t"}, {"t", "u", "none"}, {"u", "none", "t"}, {"none", "u", "t"}} {
		brings(t, planOf(from(1, names...)), old, slices.Concat(of, all))
	}
	brings(t, planOf(telling(from(1, "none", "u"), columns(0, 1)...)), old, list(named("none", many(2, ints(0)))), many(10, ints(0, 7)), many(2, ints(0, 8)))
}

// TestThreeSources holds P14.1 of three sources, all of which change.
func TestThreeSources(t *testing.T) {
	old := list(named("t", many(1, ints(1))), named("u", many(2, ints(2))), named("v", many(3, ints(3))))
	ch := list(named("v", many(1, ints(4))), named("u", many(-1, ints(2))), named("t", many(-1, ints(1)), many(2, ints(5))))
	p := telling(from(1, "t", "u", "v"), columns(0, 1, 2)...)
	brings(t, planOf(p), old, ch, many(-6, ints(1, 2, 3)), many(6, ints(5, 2, 3)), many(2, ints(5, 2, 4)))
	costs(t, planOf(p), old, ch, 3*1*4+1*1*4+1*2*1)
	p = telling(from(1, "v", "t", "u"), columns(0, 1, 2)...)
	brings(t, planOf(p), old, ch, many(-6, ints(3, 1, 2)), many(6, ints(3, 5, 2)), many(2, ints(4, 5, 2)))
	costs(t, planOf(p), old, ch, 1*2*1+3*3*1+3*1*1)
	brings(t, planOf(telling(from(1, "t", "u", "v"), columns(1)...)), old, ch, many(2, ints(2)))
	brings(t, planOf(where(p, compared(api.OpGt, col(1), lit(1)))), old, ch, many(6, ints(3, 5, 2)), many(2, ints(4, 5, 2)))
}

// TestRowsMeet holds P14.1: rows that come beside a source's changes and go beside another one's are in no net row.
func TestRowsMeet(t *testing.T) {
	old := list(named("t", many(1, ints(1))), named("u", many(1, ints(1))))
	both := telling(from(1, "t", "u"), columns(0, 1)...)
	ch := list(named("t", many(-1, ints(1))), named("u", many(1, ints(2))))
	brings(t, planOf(both), old, ch, many(-1, ints(1, 1)))
	// 1 beside 2 never is there: so what is reckoned of it counts for nothing.
	past2 := add(col(1), val(num(1<<63-2)))
	brings(t, planOf(telling(both, tells(past2))), old, ch, many(-1, ints(1<<63-1)))
	brings(t, planOf(telling(both, tells(past2))), old, list(ch[1], ch[0]), many(-1, ints(1<<63-1)))
	turned := list(named("t", many(1, ints(2))), named("u", many(-1, ints(1))))
	brings(t, planOf(both), old, turned, many(-1, ints(1, 1)))
	brings(t, planOf(telling(both, tells(add(col(0), lit(1<<63-2))))), old, turned, many(-1, ints(1<<63-1)))
	costs(t, planOf(both), old, ch, 3)
	costs(t, planOf(both), old, turned, 1)
}

// TestReadTwice holds P14.1 of a name that a part reads more than once.
func TestReadTwice(t *testing.T) {
	old := list(named("t", many(1, ints(1))), named("u", many(2, ints(8))))
	come, swap := list(named("t", many(1, ints(2)))), list(named("t", many(-1, ints(1)), many(1, ints(2))))
	p := planOf(telling(from(1, "t", "t"), columns(0, 1)...))
	brings(t, p, old, come, many(1, ints(1, 2)), many(1, ints(2, 1)), many(1, ints(2, 2)))
	costs(t, p, old, come, 3)
	brings(t, p, old, swap, many(-1, ints(1, 1)), many(1, ints(2, 2)))
	costs(t, p, old, swap, 4)
	brings(t, p, old, list(named("t", many(-1, ints(1)))), many(-1, ints(1, 1)))
	brings(t, p, old, list(named("t", many(2, ints(1)))), many(8, ints(1, 1)))
	thrice := planOf(telling(from(1, "t", "t", "t"), columns(0, 1, 2)...))
	brings(t, thrice, old, swap, many(-1, ints(1, 1, 1)), many(1, ints(2, 2, 2)))
	brings(t, thrice, old, list(named("t", many(1, ints(1)))), many(7, ints(1, 1, 1)))
	costs(t, thrice, old, swap, 2*1*1+1*2*1+1*1*2)
	apart := planOf(telling(from(1, "t", "u", "t"), columns(2, 0)...))
	brings(t, apart, old, come, many(2, ints(1, 2)), many(2, ints(2, 1)), many(2, ints(2, 2)))
	brings(t, planOf(where(telling(from(1, "t", "t"), columns(0)...), same(0, 1))), old, come, many(1, ints(2)))
}

// TestParts holds P14.1: all that the parts tell of their net rows, as one bag.
func TestParts(t *testing.T) {
	old := list(named("t", many(2, ints(1, 5)), many(1, ints(2, 5))), named("u", many(1, ints(5, 1))))
	ch := list(named("t", many(-1, ints(1, 5)), many(2, ints(3, 6))), named("u", many(1, ints(6, 3)), many(1, ints(6, 4))))
	t1, u2 := from(2, "t"), telling(from(2, "u"), columns(1)...)
	brings(t, planOf(t1, u2), old, ch, many(-1, ints(1)), many(3, ints(3)), many(1, ints(4)))
	brings(t, planOf(u2, t1), old, ch, many(-1, ints(1)), many(3, ints(3)), many(1, ints(4)))
	brings(t, planOf(t1, t1), old, ch, many(-2, ints(1)), many(4, ints(3)))
	brings(t, planOf(t1, t1, t1, u2), old, ch, many(-3, ints(1)), many(7, ints(3)), many(1, ints(4)))
	brings(t, planOf(where(t1, same(0, 1)), u2), old, ch, many(1, ints(3)), many(1, ints(4)))
	brings(t, planOf(from(2, "u"), where(t1, null(lit(1)))), old, ch, many(2, ints(6)))
	costs(t, planOf(t1, u2, t1), old, ch, 3+2+3)
	// What one part tells no more the other one tells now.
	moved := list(named("t", many(-1, ints(2, 5))), named("u", many(1, ints(0, 2))))
	brings(t, planOf(t1, u2), old, moved)
	brings(t, planOf(t1, u2, t1), old, moved, many(-1, ints(2)))
	brings(t, planOf(t1, u2, u2), old, moved, many(1, ints(2)))
}

// TestWide holds P14.1 of as many columns, sources, Outs and parts as may be.
func TestWide(t *testing.T) {
	old := list(named("t", many(1, ints(1, 2, 3, 4, 5, 6, 7, 8))))
	ch := list(named("t", many(-1, ints(1, 2, 3, 4, 5, 6, 7, 8)), many(1, ints(8, 7, 6, 5, 4, 3, 2, 1))))
	p := telling(from(8, "t", "t", "t"), columns(0, 7, 8, 15, 16, 23, 11, 12)...)
	p.Where = and(same(0, 8), same(15, 23))
	brings(t, planOf(p, p, p, p), old, ch, many(-4, ints(1, 8, 1, 8, 1, 8, 4, 5)), many(4, ints(8, 1, 8, 1, 8, 1, 5, 4)))
	costs(t, planOf(p, p, p, p), old, ch, 4*6)
}
