package plan

import (
	"math"
	"reflect"
	"slices"
	"testing"

	"belvedere/api"
	"belvedere/bag"
)

// gathers holds that p over l tells want.
func gathers(t *testing.T, p api.Plan, l []api.Named, want ...api.Many) {
	t.Helper()
	got, err := Rows(p, l)
	if err != api.OK || !alikeBags(got, want) {
		t.Errorf("Rows(%+v, %+v) = %+v, %d, want %+v", p, l, got, err, want)
	}
}

func alikeBags(a, b []api.Many) bool {
	return slices.EqualFunc(a, b, func(a, b api.Many) bool { return a.N == b.N && slices.Equal(a.Row, b.Row) })
}

// refused holds that p over l has that error, and no rows beside it.
func refused(t *testing.T, p api.Plan, l []api.Named, want api.Errno) {
	t.Helper()
	if got, err := Rows(p, l); err != want || len(got) > 0 {
		t.Errorf("Rows(%+v, %+v) = %+v, %d, want %d", p, l, got, err, want)
	}
}

// past and unlike are expressions whose errors are ErrOverflow and ErrType; past3 is past the ends where column 0 is 3
// or more.
func past() api.Calc   { return add(lit(math.MaxInt), lit(1)) }
func unlike() api.Calc { return mul(lit(2), val(text("a"))) }
func past3() api.Calc  { return add(col(0), lit(math.MaxInt-2)) }

// TestExample holds the chapter's example.
func TestExample(t *testing.T) {
	l := []api.Named{named("t", many(2, ints(1, 5)), many(1, ints(2, 7)))}
	p := planOf(grouped(tells(col(0)), gives(api.ASum, col(1))))
	gathers(t, p, l, many(1, ints(1, 10)), many(1, ints(2, 7)))
	costs(t, p, l, 3)
}

// TestRowsOneByOne holds P12.2: what a part that isn't grouped tells, as often as each row is there.
func TestRowsOneByOne(t *testing.T) {
	l := []api.Named{named("t", many(2, row(nothing, num(5))), many(3, ints(1, 5)), many(1, ints(2, 7)), many(4, row(text("a"), held(1))))}
	gathers(t, planOf(of(2, tells(col(0)), tells(col(1)))), l, l[0].Rows...)
	gathers(t, planOf(of(2, tells(col(1)), tells(col(0)))), l, many(2, row(num(5), nothing)), many(3, ints(5, 1)), many(1, ints(7, 2)), many(4, row(held(1), text("a"))))
	gathers(t, planOf(of(2, tells(col(1)))), l, many(5, ints(5)), many(1, ints(7)), many(4, row(held(1))))
	gathers(t, planOf(of(2, tells(lit(4)))), l, many(10, ints(4)))
	gathers(t, planOf(of(2, tells(val(nothing)))), l, many(10, row(nothing)))
	odd := api.Value{Kind: -8, N: 2, S: "x"}
	gathers(t, planOf(of(2, tells(val(odd)))), l, many(10, row(odd)))
	p := of(2, tells(add(col(0), col(1))))
	p.Where = compared(api.OpGe, col(1), lit(5))
	gathers(t, planOf(p), l, many(2, row(nothing)), many(3, ints(6)), many(1, ints(9)))
	p.Where = compared(api.OpGt, col(0), lit(1))
	gathers(t, planOf(p), l, many(1, ints(9)))
	p.Where = join(api.CNot, p.Where)
	gathers(t, planOf(p), l, many(3, ints(6)))
	p.Where = null(col(0))
	gathers(t, planOf(p), l, many(2, row(nothing)))
	p.Where = null(lit(1))
	gathers(t, planOf(p), l)
	p.Where = api.Test{Kind: 9}
	gathers(t, planOf(p), l)
	gathers(t, planOf(p), []api.Named{named("t")})
	p.Where = api.Test{}
	gathers(t, planOf(p), []api.Named{named("t"), l[0]})
}

// TestRowsSideBySide holds P12.2: sources stand side by side in their order, as often as their numbers, multiplied.
func TestRowsSideBySide(t *testing.T) {
	l := []api.Named{named("t", many(2, ints(1, 10)), many(3, ints(2, 20))), named("u", many(5, ints(1)), many(1, ints(3))), named("v", many(7, ints(2))), named("none")}
	p := api.Part{From: []string{"t", "u"}, Widths: []int{2, 1}, Outs: []api.Out{tells(col(0)), tells(col(1)), tells(col(2))}}
	gathers(t, planOf(p), l, many(10, ints(1, 10, 1)), many(2, ints(1, 10, 3)), many(15, ints(2, 20, 1)), many(3, ints(2, 20, 3)))
	p.Where = compared(api.OpEq, col(0), col(2))
	gathers(t, planOf(p), l, many(10, ints(1, 10, 1)))
	p.Where = compared(api.OpLt, col(0), col(2))
	gathers(t, planOf(p), l, many(2, ints(1, 10, 3)), many(3, ints(2, 20, 3)))
	p = api.Part{From: []string{"u", "t"}, Widths: []int{1, 2}, Outs: p.Outs}
	gathers(t, planOf(p), l, many(10, ints(1, 1, 10)), many(15, ints(1, 2, 20)), many(2, ints(3, 1, 10)), many(3, ints(3, 2, 20)))
	p = api.Part{From: []string{"u", "v", "t"}, Widths: []int{1, 1, 2}, Outs: []api.Out{tells(col(1)), tells(col(3)), tells(col(0))}}
	gathers(t, planOf(p), l, many(70, ints(2, 10, 1)), many(14, ints(2, 10, 3)), many(105, ints(2, 20, 1)), many(21, ints(2, 20, 3)))
	p = api.Part{From: []string{"t", "v", "u"}, Widths: []int{2, 1, 1}, Outs: []api.Out{tells(col(0)), tells(col(1)), tells(col(2)), tells(col(3))}}
	gathers(t, planOf(p), l, many(70, ints(1, 10, 2, 1)), many(14, ints(1, 10, 2, 3)), many(105, ints(2, 20, 2, 1)), many(21, ints(2, 20, 2, 3)))
	gathers(t, planOf(from(1, "u", "u")), l, many(30, ints(1)), many(6, ints(3)))
	p = from(1, "u", "u", "u")
	p.Where = join(api.CAnd, compared(api.OpNe, col(0), col(1)), compared(api.OpEq, col(1), col(2)))
	gathers(t, planOf(p), l, many(5, ints(1)), many(25, ints(3)))
	for _, names := range [][]string{{"none"}, {"none", "u"}, {"u", "none"}, {"u", "none", "v"}, {"u", "u", "none"}} {
		gathers(t, planOf(from(1, names...)), l)
	}
}

// TestRowsWide holds P12.2 of as many columns, sources, Outs and parts as may be.
func TestRowsWide(t *testing.T) {
	wide := func(n int) []api.Value { return ints(n, n+1, n+2, n+3, n+4, n+5, n+6, n+7) }
	l := []api.Named{named("t", many(2, wide(0))), named("u", many(3, wide(10))), named("v", many(1, wide(20)))}
	p := from(8, "t", "u", "v")
	p.Outs = nil
	for _, at := range []int{0, 7, 8, 15, 16, 23, 3, 12} {
		p.Outs = append(p.Outs, tells(col(at)))
	}
	one := ints(0, 7, 10, 17, 20, 27, 3, 14)
	gathers(t, planOf(p), l, many(6, one))
	gathers(t, planOf(p, p, p, p), l, many(24, one))
	p.Group = []int{0, 7, 8, 15}
	p.Outs = append(p.Outs[:4:4], counts(), gives(api.ASum, col(23)), gives(api.AMin, col(3)), gives(api.AMax, col(12)))
	gathers(t, planOf(p, p), l, many(2, ints(0, 7, 10, 17, 6, 162, 3, 14)))
}

// TestRowsGroups holds P12.2: a row for each group, by the values of the group's columns, nothing being one of them.
func TestRowsGroups(t *testing.T) {
	l := []api.Named{named("t", many(2, row(nothing, num(5))), many(1, row(nothing, num(6))), many(3, ints(1, 5)), many(1, row(held(1), num(5))), many(1, row(text("1"), nothing)))}
	gathers(t, planOf(grouped(tells(col(0)))), l, many(1, row(nothing)), many(1, ints(1)), many(1, row(held(1))), many(1, row(text("1"))))
	gathers(t, planOf(grouped(tells(col(0)), counts())), l, many(1, row(nothing, num(3))), many(1, ints(1, 3)), many(1, row(held(1), num(1))), many(1, row(text("1"), num(1))))
	// Unlike groups may tell the same.
	gathers(t, planOf(grouped(counts())), l, many(2, ints(1)), many(2, ints(3)))
	p := grouped(tells(col(1)), counts(), tells(col(0)))
	p.Group = []int{1, 0}
	gathers(t, planOf(p), l, many(1, row(nothing, num(1), text("1"))), many(1, row(num(5), num(1), held(1))), many(1, row(num(5), num(2), nothing)), many(1, ints(5, 3, 1)), many(1, row(num(6), num(1), nothing)))
	p = grouped(tells(col(1)))
	p.Group = []int{1, 1, 1, 1}
	gathers(t, planOf(p), l, many(1, row(nothing)), many(1, ints(5)), many(1, ints(6)))
	p.Group, p.Outs = []int{1, 0}, []api.Out{tells(col(1))}
	gathers(t, planOf(p), l, many(1, row(nothing)), many(3, ints(5)), many(1, ints(6)))
	p.Where = compared(api.OpEq, col(1), lit(5))
	gathers(t, planOf(p), l, many(3, ints(5)))
	p.Where = compared(api.OpEq, col(1), lit(9))
	gathers(t, planOf(p), l)
	gathers(t, planOf(grouped(counts())), []api.Named{named("t")})
}

// TestRowsAggregates holds P12.2, of each aggregate, over rows that are there more than once.
func TestRowsAggregates(t *testing.T) {
	rows := []api.Many{many(2, row(num(1), nothing)), many(3, ints(1, -4)), many(1, ints(1, 6)), many(5, row(num(2), nothing)), many(1, ints(3, 9))}
	l := []api.Named{named("t", rows...)}
	for _, c := range []struct {
		agg  int
		want []api.Value
		all  api.Value
	}{
		{api.ACount, ints(6, 5, 1), num(12)},
		{api.ASome, ints(4, 0, 1), num(5)},
		{api.ASum, row(num(-6), nothing, num(9)), num(3)},
		{api.ATotal, ints(-6, 0, 9), num(3)},
		{api.AMin, row(num(-4), nothing, num(9)), num(-4)},
		{api.AMax, row(num(6), nothing, num(9)), num(9)},
	} {
		p := grouped(tells(col(0)), gives(c.agg, col(1)))
		gathers(t, planOf(p), l, many(1, row(num(1), c.want[0])), many(1, row(num(2), c.want[1])), many(1, row(num(3), c.want[2])))
		gathers(t, planOf(of(2, gives(c.agg, col(1)))), l, many(1, row(c.all)))
		p = of(2, gives(c.agg, col(1)))
		p.Where = compared(api.OpEq, col(0), lit(1))
		gathers(t, planOf(p), l, many(1, row(c.want[0])))
	}
	p := of(2, gives(api.ASum, mul(col(0), col(1))), gives(api.AMin, calc(api.ENeg, col(1))), gives(api.ASome, add(col(0), col(1))), gives(api.ATotal, lit(2)), gives(api.ASum, val(nothing)))
	gathers(t, planOf(p), l, many(1, row(num(21), num(-9), num(5), num(24), nothing)))
}

// TestRowsOfNone holds P12.2: without Group all rows are one group, also if there are none; with Group there is none.
func TestRowsOfNone(t *testing.T) {
	all := []api.Out{counts(), gives(api.ASome, col(0)), gives(api.ASum, col(0)), gives(api.ATotal, col(0)), gives(api.AMin, col(0)), gives(api.AMax, col(0))}
	want := many(1, row(num(0), num(0), nothing, num(0), nothing, nothing))
	none, two := []api.Named{named("t"), named("u")}, []api.Named{named("t", many(2, row(nothing)), many(1, ints(1))), named("u")}
	p := of(1, all...)
	gathers(t, planOf(p), none, want)
	p.Where = compared(api.OpGt, col(0), lit(1))
	gathers(t, planOf(p), two, want)
	gathers(t, planOf(p, p), two, many(2, want.Row))
	p.From, p.Widths, p.Where = []string{"t", "u"}, []int{1, 1}, api.Test{}
	gathers(t, planOf(p), two, want)
	p.Distinct = true
	gathers(t, planOf(p), two, want)
	p.Group = []int{0}
	gathers(t, planOf(p), two)
	gathers(t, planOf(p), none)
	// Nothing is reckoned of no rows.
	p = of(1, gives(api.ASum, unlike()), gives(api.ASome, past()), gives(api.AMin, api.Calc{}))
	gathers(t, planOf(p), none, many(1, row(nothing, num(0), nothing)))
	gathers(t, planOf(of(1, tells(unlike()), tells(past()))), none)
}

// TestRowsLeast holds P12.2, of AMin and AMax: layer 1's order, whatever the values are, nothing aside.
func TestRowsLeast(t *testing.T) {
	odd := api.Value{Kind: -1, N: 9}
	nought := api.Value{Kind: api.TAny, N: 4}
	for _, c := range []struct{ l, want []api.Value }{
		{row(num(3), num(-3), num(0)), ints(-3, 3)},
		{ints(math.MinInt, math.MaxInt), ints(math.MinInt, math.MaxInt)},
		{row(nothing, num(7)), ints(7, 7)},
		{row(nought, num(7)), ints(7, 7)},
		{row(nothing, nought), row(nothing, nothing)},
		{row(held(1), held(0)), row(held(0), held(1))},
		{row(text("b"), text("a"), text("ab"), nothing), row(text("a"), text("b"))},
		{row(text("a"), held(0), num(9), nothing), row(num(9), text("a"))},
		{row(odd, num(-5)), row(odd, num(-5))},
		{row(odd, nothing), row(odd, odd)},
		{row(api.Value{Kind: api.TInt, N: 2, S: "b"}, num(2)), row(num(2), api.Value{Kind: api.TInt, N: 2, S: "b"})},
	} {
		var l [][]api.Value
		for i, v := range c.l {
			l = append(l, row(num(len(c.l)-i), v))
		}
		gathers(t, planOf(of(2, gives(api.AMin, col(1)), gives(api.AMax, col(1)))), []api.Named{named("t", bag.List(l)...)}, many(1, c.want))
	}
}

// TestRowsSums holds P12.2, of ASum and ATotal: a whole number without bounds, and only what it comes to is held
// against 64 bits.
func TestRowsSums(t *testing.T) {
	const least, most = math.MinInt, math.MaxInt
	for _, c := range []struct {
		l    []api.Many
		want int
		err  api.Errno
	}{
		{[]api.Many{many(1, ints(most))}, most, api.OK},
		{[]api.Many{many(1, ints(least))}, least, api.OK},
		{[]api.Many{many(2, ints(most))}, 0, api.ErrOverflow},
		{[]api.Many{many(2, ints(least))}, 0, api.ErrOverflow},
		{[]api.Many{many(1, ints(least)), many(1, ints(most))}, -1, api.OK},
		{[]api.Many{many(1000, ints(least)), many(1000, ints(most))}, -1000, api.OK},
		{[]api.Many{many(1, ints(1)), many(1, ints(most))}, 0, api.ErrOverflow},
		{[]api.Many{many(1, ints(-1)), many(1, ints(most))}, most - 1, api.OK},
		{[]api.Many{many(1, ints(least)), many(1, ints(-1))}, 0, api.ErrOverflow},
		{[]api.Many{many(1, ints(least)), many(1, ints(1))}, least + 1, api.OK},
		{[]api.Many{many(1, ints(least)), many(1, ints(-1)), many(1, ints(1))}, least, api.OK},
		{[]api.Many{many(1, ints(-1)), many(1, ints(1)), many(1, ints(most))}, most, api.OK},
		{[]api.Many{many(1, ints(-7)), many(1, ints(7))}, 0, api.OK},
		{[]api.Many{many(2000, ints(0))}, 0, api.OK},
		{[]api.Many{many(2000, ints(-1))}, -2000, api.OK},
		{[]api.Many{many(2, ints(1<<62))}, 0, api.ErrOverflow},
		{[]api.Many{many(2, ints(-1<<62))}, least, api.OK},
		{[]api.Many{many(4, ints(1<<62))}, 0, api.ErrOverflow},
		{[]api.Many{many(4, ints(-1<<62))}, 0, api.ErrOverflow},
		{[]api.Many{many(1024, ints(1<<54))}, 0, api.ErrOverflow},
		{[]api.Many{many(1024, ints(1<<53)), many(1, ints(-5+1<<54))}, 0, api.ErrOverflow},
		{[]api.Many{many(1024, ints(-1<<53)), many(1, ints(1))}, least + 1, api.OK},
		{[]api.Many{many(1024, ints(1<<53-1)), many(1, ints(1<<53+1023))}, 0, api.ErrOverflow},
		{[]api.Many{many(1024, ints(1<<53-1)), many(1, ints(1<<53+1))}, 0, api.ErrOverflow},
		{[]api.Many{many(1, row(nothing)), many(1, ints(-3)), many(2, ints(5))}, 7, api.OK},
	} {
		want := many(1, ints(c.want, c.want))
		for _, p := range []api.Part{of(1, gives(api.ASum, col(0)), gives(api.ATotal, col(0))), of(1, gives(api.ATotal, col(0)), gives(api.ASum, col(0)))} {
			l := []api.Named{named("t", c.l...)}
			if c.err != api.OK {
				refused(t, planOf(p), l, c.err)
				continue
			}
			gathers(t, planOf(p), l, want)
		}
	}
	odd := api.Value{Kind: api.TInt, N: 4, S: "x"}
	gathers(t, planOf(of(1, gives(api.ASum, col(0)), gives(api.ATotal, col(0)))), []api.Named{named("t", many(3, row(odd)))}, many(1, ints(12, 12)))
}

// TestRowsDistinct holds P12.2: with Distinct each row of a part once, but what several parts tell comes together.
func TestRowsDistinct(t *testing.T) {
	l := []api.Named{named("t", many(2, ints(1, 5)), many(1, ints(1, 6)), many(3, ints(2, 5)))}
	p := of(2, tells(col(0)))
	gathers(t, planOf(p), l, many(3, ints(1)), many(3, ints(2)))
	once := p
	once.Distinct = true
	gathers(t, planOf(once), l, many(1, ints(1)), many(1, ints(2)))
	gathers(t, planOf(once, once), l, many(2, ints(1)), many(2, ints(2)))
	gathers(t, planOf(once, p), l, many(4, ints(1)), many(4, ints(2)))
	once.Where = compared(api.OpEq, col(1), lit(5))
	gathers(t, planOf(once, p, once), l, many(5, ints(1)), many(5, ints(2)))
	by := grouped(counts())
	gathers(t, planOf(by), l, many(2, ints(3)))
	by.Distinct = true
	gathers(t, planOf(by), l, many(1, ints(3)))
	gathers(t, planOf(by, by, by), l, many(3, ints(3)))
	both := of(2, tells(col(0)), tells(col(1)))
	both.Distinct = true
	gathers(t, planOf(both), l, bag.Once(l[0].Rows)...)
}

// TestRowsErrors holds P12.2: errors of what is reckoned, and of that alone.
func TestRowsErrors(t *testing.T) {
	l := []api.Named{named("t", many(2, row(num(1), text("a"))), many(1, row(num(3), nothing)))}
	kept := func(p api.Part, n int) api.Part {
		p.Where = compared(api.OpEq, col(0), lit(n))
		return p
	}
	refused(t, planOf(of(2, tells(past3()))), l, api.ErrOverflow)
	refused(t, planOf(kept(of(2, tells(past3())), 3)), l, api.ErrOverflow)
	gathers(t, planOf(kept(of(2, tells(past3())), 1)), l, many(2, ints(math.MaxInt-1)))
	refused(t, planOf(of(2, tells(add(lit(1), col(1))))), l, api.ErrType)
	gathers(t, planOf(kept(of(2, tells(add(lit(1), col(1)))), 3)), l, many(1, row(nothing)))
	refused(t, planOf(of(2, tells(api.Calc{}))), l, api.ErrType)
	refused(t, planOf(of(2, tells(lit(1)), tells(calc(api.EAdd, lit(1))))), l, api.ErrType)
	gathers(t, planOf(kept(of(2, tells(api.Calc{})), 2)), l)
	// Of ACount nothing is reckoned; of all others E is, of each row that is kept.
	for _, e := range []api.Calc{past(), unlike(), {}, {Kind: 9}} {
		gathers(t, planOf(of(2, gives(api.ACount, e))), l, many(1, ints(3)))
		want := api.ErrType
		if e.Kind == api.EAdd {
			want = api.ErrOverflow
		}
		for agg := api.ASome; agg <= api.ATotal; agg++ {
			refused(t, planOf(of(2, gives(agg, e))), l, want)
			refused(t, planOf(grouped(tells(col(0)), gives(agg, e))), l, want)
		}
	}
	// What is no number has no sum, but is counted, and is the least one.
	for _, agg := range []int{api.ASum, api.ATotal} {
		refused(t, planOf(of(2, gives(agg, col(1)))), l, api.ErrType)
		refused(t, planOf(grouped(gives(agg, col(1)))), l, api.ErrType)
		refused(t, planOf(of(2, gives(agg, val(held(1))))), l, api.ErrType)
		refused(t, planOf(of(2, gives(agg, val(api.Value{Kind: 4})))), l, api.ErrType)
		refused(t, planOf(of(2, gives(agg, val(api.Value{Kind: -1, N: 1})))), l, api.ErrType)
		refused(t, planOf(of(2, gives(agg, past3()))), l, api.ErrOverflow)
	}
	gathers(t, planOf(of(2, gives(api.ASome, col(1)), gives(api.AMin, col(1)), gives(api.AMax, col(1)))), l, many(1, row(num(2), text("a"), text("a"))))
	gathers(t, planOf(kept(of(2, gives(api.ASum, col(1)), gives(api.ATotal, col(1))), 3)), l, many(1, row(nothing, num(0))))
}

// TestRowsErrTypeFirst holds P12.2: ErrType, if anything has it, wherever it stands; else the other error.
func TestRowsErrTypeFirst(t *testing.T) {
	l := []api.Named{named("t", many(1, row(num(1), text("a"))), many(2, row(num(3), num(math.MaxInt))), many(1, row(num(5), text("b"))))}
	text2 := add(col(1), lit(0)) // ErrType of the first row and of the third
	for _, p := range []api.Plan{
		planOf(of(2, tells(past()), tells(unlike()))),
		planOf(of(2, tells(unlike()), tells(past()))),
		planOf(of(2, tells(past()), tells(text2))),
		planOf(of(2, tells(text2), tells(past3()))),
		planOf(of(2, tells(past())), of(2, tells(unlike()))),
		planOf(of(2, tells(unlike())), of(2, tells(past()))),
		planOf(of(2, tells(past())), of(2, tells(col(0))), of(2, gives(api.AMax, text2))),
		planOf(of(2, gives(api.ASum, col(1)))),
		planOf(of(2, gives(api.ASome, past()), gives(api.AMin, unlike()))),
		planOf(of(2, gives(api.ASome, unlike()), gives(api.AMin, past()))),
		planOf(grouped(tells(col(0)), gives(api.ASum, past3()), gives(api.ATotal, col(1)))),
		planOf(grouped(gives(api.ASum, past3())), of(2, gives(api.ASum, text2))),
		planOf(of(2, gives(api.ASome, text2))),
		planOf(of(2, gives(api.AMax, text2)), of(2, tells(past()))),
	} {
		refused(t, p, l, api.ErrType)
	}
	for _, p := range []api.Plan{
		planOf(of(2, tells(col(1))), of(2, tells(past3()))),
		planOf(of(2, tells(past3())), of(2, tells(col(1)))),
		planOf(grouped(tells(col(0)), gives(api.ASum, past3()))),
		planOf(of(2, gives(api.ASum, mul(col(0), lit(math.MaxInt)))), of(2, counts())),
		planOf(of(2, counts()), of(2, gives(api.AMin, past3()))),
		planOf(with(of(2, tells(past3())), func(p *api.Part) { p.Distinct = true })),
	} {
		refused(t, p, l, api.ErrOverflow)
	}
	// One row's E is past the ends, and another row's value is no number: both are looked at.
	mixed := []api.Named{named("t", many(1, ints(1)), many(1, row(text("a"))))}
	for _, agg := range []int{api.ASum, api.ATotal} {
		sums := of(1, gives(agg, col(0)))
		refused(t, planOf(sums, of(1, gives(api.ASome, add(lit(math.MaxInt), lit(1))))), mixed, api.ErrType)
	}
	refused(t, planOf(of(1, gives(api.ASum, add(col(0), lit(math.MaxInt))))), mixed, api.ErrType)
}

// TestRowsLimit holds P12.2: ErrResource just if the cost is more than MaxRows, ahead of what is reckoned and behind
// what isn't there.
func TestRowsLimit(t *testing.T) {
	l := []api.Named{sized("t", 2000), sized("u", 2001), sized("a", 40), sized("b", 50), sized("c", 51), sized("one", 1), sized("none", 0), sized("most", api.MaxMany), named("bad", many(1, ints(1, 2)))}
	gathers(t, planOf(from(1, "t")), l, many(2000, ints(1)))
	gathers(t, planOf(from(1, "t", "one", "one")), l, many(2000, ints(1)))
	gathers(t, planOf(from(1, "a", "b")), l, many(2000, ints(1)))
	gathers(t, planOf(from(1, "a", "b"), from(1, "t", "none"), from(1, "none", "most", "most")), l, many(2000, ints(1)))
	gathers(t, planOf(from(1, "most", "most", "none")), l)
	gathers(t, planOf(with(from(1, "most", "none", "most"), func(p *api.Part) { p.Outs = []api.Out{counts()} })), l, many(1, ints(0)))
	for _, p := range []api.Plan{
		planOf(from(1, "u")), planOf(from(1, "t"), from(1, "one")), planOf(from(1, "one"), from(1, "a", "b")),
		planOf(from(1, "a", "c")), planOf(from(1, "most")), planOf(from(1, "most", "most", "most")),
		planOf(from(1, "a", "a"), from(1, "a", "a")), planOf(from(1, "none"), from(1, "u")),
	} {
		refused(t, p, l, api.ErrResource)
	}
	wrong := from(1, "u")
	wrong.Outs = []api.Out{tells(unlike())}
	refused(t, planOf(wrong), l, api.ErrResource)
	wrong.Where = null(lit(1))
	refused(t, planOf(wrong), l, api.ErrResource)
	wrong.Outs, wrong.Distinct = []api.Out{counts()}, true
	refused(t, planOf(wrong), l, api.ErrResource)
	refused(t, planOf(from(1, "u"), from(1, "bad")), l, api.ErrArg)
	refused(t, planOf(from(1, "u"), from(1, "w")), l, api.ErrName)
	refused(t, planOf(from(1, "u"), api.Part{}), l, api.ErrArg)
}

// TestRowsOfManyRows holds P1 of sources without rows beside such that have very many, which no call may put side by
// side, and of as many unlike rows as may be.
func TestRowsOfManyRows(t *testing.T) {
	var long, full []api.Many
	for i := range 200000 {
		long = append(long, many(1<<20, ints(i)))
	}
	for i := range 2000 {
		full = append(full, many(1, ints(i)))
	}
	l := []api.Named{named("long", long...), named("none"), named("full", full...)}
	gathers(t, planOf(from(1, "long", "long", "none"), from(1, "none", "long", "long"), from(1, "long", "none", "long")), l)
	gathers(t, planOf(from(1, "full")), l, full...)
	p := from(1, "full")
	p.Group, p.Outs = []int{0}, []api.Out{counts()}
	gathers(t, planOf(p), l, many(2000, ints(1)))
	costs(t, planOf(from(1, "long", "none")), l, 0)
	costs(t, planOf(from(1, "long", "full")), l, api.MaxMany)
	costs(t, planOf(slices.Repeat([]api.Part{from(1, slices.Repeat([]string{"long"}, 50)...)}, 2000)...), l, api.MaxMany)
}

// TestPartsTellTogether holds P12.3: parts tell together what each tells.
func TestPartsTellTogether(t *testing.T) {
	l := []api.Named{named("t", many(2, ints(1, 5)), many(1, ints(1, 6)), many(3, ints(2, 5)))}
	parts := []api.Part{of(2, tells(col(0))), of(2, tells(col(1))), grouped(counts()), of(2, gives(api.AMax, col(1))), with(of(2, tells(col(0))), func(p *api.Part) { p.Distinct = true })}
	for _, a := range parts {
		for _, b := range parts {
			for _, c := range parts {
				var sum []api.Many
				for _, p := range []api.Part{a, b, c} {
					rows, _ := Rows(planOf(p), l)
					sum = bag.Add(sum, rows)
				}
				gathers(t, planOf(a, b, c), l, sum...)
			}
		}
	}
}

// TestDeep holds P1 of what is nested as deep as may be.
func TestDeep(t *testing.T) {
	const deep = 1<<16 - 8
	e, c := col(0), null(col(1))
	for range deep {
		e, c = add(e, lit(1)), join(api.CNot, c)
	}
	p := of(2, tells(e))
	p.Where = c
	l := []api.Named{named("t", many(2, row(num(1), nothing)), many(1, ints(2, 5)))}
	gathers(t, planOf(p), l, many(2, ints(1+deep)))
	p.Outs = []api.Out{gives(api.ASum, e)}
	gathers(t, planOf(p), l, many(1, ints(2+2*deep)))
}

// TestNothingIsChanged holds rule 3: what is handed in stays as it was, its spare room too, and an answer is new
// memory.
func TestNothingIsChanged(t *testing.T) {
	made := func() (api.Plan, []api.Named) {
		rows := append(make([]api.Many, 0, 8), many(2, append(make([]api.Value, 0, 4), ints(3, 5)...)), many(1, append(make([]api.Value, 0, 4), ints(4, 1)...)))
		l := append(make([]api.Named, 0, 4), named("t", rows...), named("u", rows[:1:2]...))
		p := from(2, "t", "u")
		p.Outs = append(make([]api.Out, 0, 9), tells(col(1)), tells(col(0)))
		p.Where = join(api.COr, some(col(0)), null(col(2)))
		q := from(2, "t", "t")
		q.Group = append(make([]int, 0, 9), 3, 1)
		q.Outs = []api.Out{tells(col(1)), gives(api.AMin, add(col(0), lit(1)))}
		q.Distinct = true
		return planOf(p, q), l
	}
	p, l := made()
	wantP, wantL := made()
	first, err := Rows(p, l)
	if err != api.OK || len(first) == 0 {
		t.Fatalf("%+v, %d", first, err)
	}
	Cost(p, l)
	Ready(p, l)
	Right(p)
	Grouped(p.Parts[1])
	whole := func(l []api.Named) [][]api.Many {
		var all [][]api.Many
		for _, n := range l[:cap(l)] {
			var rows []api.Many
			for _, m := range n.Rows[:cap(n.Rows)] {
				rows = append(rows, many(m.N, m.Row[:cap(m.Row)]))
			}
			all = append(all, rows)
		}
		return all
	}
	if !reflect.DeepEqual(p, wantP) || !reflect.DeepEqual(l, wantL) || !reflect.DeepEqual(whole(l), whole(wantL)) {
		t.Errorf("%+v, %+v have become %+v, %+v", wantP, wantL, p, l)
	}
	apart(t, first, l)
	again, _ := Rows(p, l)
	for i := range first {
		first[i].N = 99
		for j := range first[i].Row {
			first[i].Row[j] = text("x")
		}
	}
	gathers(t, p, l, again...)
	if !reflect.DeepEqual(l, wantL) {
		t.Errorf("a turned answer has turned %+v", l)
	}
}

// apart holds that no row of an answer shares memory with another one, or with what was handed in.
func apart(t *testing.T, answer []api.Many, l []api.Named) {
	t.Helper()
	met := map[*api.Value]bool{}
	for _, n := range l {
		for _, m := range n.Rows {
			for i := range m.Row[:cap(m.Row)] {
				met[&m.Row[:cap(m.Row)][i]] = true
			}
		}
	}
	for _, m := range answer {
		for i := range m.Row[:cap(m.Row)] {
			at := &m.Row[:cap(m.Row)][i]
			if met[at] {
				t.Errorf("the row %+v shares memory", m)
			}
			met[at] = true
		}
	}
}
