package exec

import (
	"math"
	"testing"

	"belvedere/api"
)

// past and unlike are expressions whose errors are ErrOverflow and ErrType; past3 is past the ends where column 0 is 3
// or more.
func past() api.Calc   { return add(lit(math.MaxInt), lit(1)) }
func unlike() api.Calc { return mul(lit(2), val(text("a"))) }
func past3() api.Calc  { return add(col(0), lit(math.MaxInt-2)) }

// TestWrongPlans holds P13.1: ErrArg of plans that may not be, whatever is there.
func TestWrongPlans(t *testing.T) {
	l := []api.Named{named("t", many(1, ints(1, 2))), named("none")}
	turned := func(turn func(*api.Part)) api.Part {
		p := from(2, "t", "none")
		turn(&p)
		return p
	}
	for _, p := range []api.Part{
		{},
		turned(func(p *api.Part) { p.From = nil }),
		turned(func(p *api.Part) { p.Widths = nil }),
		turned(func(p *api.Part) { p.From, p.Widths = nil, nil }),
		turned(func(p *api.Part) { p.Widths = []int{2} }),
		turned(func(p *api.Part) { p.Widths = []int{2, 0} }),
		turned(func(p *api.Part) { p.Widths = []int{2, 9} }),
		turned(func(p *api.Part) { p.Widths = []int{math.MinInt, math.MaxInt} }),
		from(2, "t", "t", "t", "t"),
		turned(func(p *api.Part) { p.Outs = nil }),
		turned(func(p *api.Part) { p.Outs = columns(0, 0, 0, 0, 0, 0, 0, 0, 0) }),
		turned(func(p *api.Part) { p.Outs = columns(4) }),
		turned(func(p *api.Part) { p.Outs = columns(-1) }),
		turned(func(p *api.Part) { p.Outs = []api.Out{tells(lit(1)), tells(add(lit(1), col(math.MaxInt)))} }),
		turned(func(p *api.Part) { p.Outs = []api.Out{gives(7, col(0))} }),
		turned(func(p *api.Part) { p.Outs = []api.Out{gives(-1, col(0))} }),
		turned(func(p *api.Part) { p.Outs = []api.Out{gives(api.ACount, col(4))} }),
		turned(func(p *api.Part) { p.Outs = []api.Out{counts(), tells(col(0))} }),
		turned(func(p *api.Part) { p.Group = []int{1} }),
		turned(func(p *api.Part) { p.Group, p.Outs = []int{0}, []api.Out{tells(lit(1))} }),
		turned(func(p *api.Part) { p.Group = []int{0, 0, 0, 0, 0} }),
		turned(func(p *api.Part) { p.Group = []int{0, 4} }),
		turned(func(p *api.Part) { p.Group = []int{0, math.MinInt} }),
		where(from(2, "t"), same(0, 2)),
		where(from(2, "t"), same(math.MinInt, 1)),
		where(from(2, "t", "t"), and(same(0, 2), not(null(col(4))))),
		where(from(2, "t"), api.Test{Kind: api.CNone, L: col(2)}),
	} {
		for _, there := range [][]api.Named{l, nil, {sized("t", math.MaxInt)}} {
			refused(t, planOf(p), there, api.ErrArg)
			refused(t, planOf(from(2, "t"), p), there, api.ErrArg)
			refused(t, planOf(p, from(2, "gone")), there, api.ErrArg)
		}
	}
	good := from(2, "t")
	refused(t, api.Plan{}, l, api.ErrArg)
	refused(t, planOf(good, good, good, good, good), l, api.ErrArg)
	refused(t, planOf(good, telling(good, columns(0, 1)...)), l, api.ErrArg)
}

// TestWhatIsNotThere holds P13.1: the first fault of what parts read, source by source, part by part.
func TestWhatIsNotThere(t *testing.T) {
	l := []api.Named{named("t", many(1, ints(1, 2))), named("short", many(1, ints(1))), named("turned", many(1, ints(2, 2)), many(1, ints(1, 2))), named("went", many(-1, ints(1, 2))), named("often", many(api.MaxMany+1, ints(1, 2)))}
	good, gone := from(2, "t"), from(2, "gone")
	refused(t, planOf(gone), l, api.ErrName)
	refused(t, planOf(gone), nil, api.ErrName)
	refused(t, planOf(good), nil, api.ErrName)
	refused(t, planOf(from(2, "T")), l, api.ErrName)
	refused(t, planOf(from(2, "")), l, api.ErrName)
	refused(t, planOf(good, good, good, gone), l, api.ErrName)
	refused(t, planOf(from(2, "t", "t", "gone")), l, api.ErrName)
	refused(t, planOf(from(1, "t")), l, api.ErrArg)
	refused(t, planOf(from(3, "t")), l, api.ErrArg)
	for _, name := range []string{"short", "turned", "went", "often"} {
		bad := from(2, name)
		refused(t, planOf(bad), l, api.ErrArg)
		refused(t, planOf(from(2, "t", "t", name)), l, api.ErrArg)
		refused(t, planOf(good, bad, gone), l, api.ErrArg)
		refused(t, planOf(good, gone, bad), l, api.ErrName)
		refused(t, planOf(from(2, name, "gone")), l, api.ErrArg)
		refused(t, planOf(from(2, "gone", name)), l, api.ErrName)
		refused(t, planOf(where(from(2, "t", name), null(lit(1)))), l, api.ErrArg)
		// What no part reads doesn't count, nor what stands behind one of the same name.
		there := append([]api.Named{named(name, many(2, ints(5, 6)))}, l...)
		gathers(t, planOf(bad), there, many(2, ints(5)))
	}
	gathers(t, planOf(good), l, many(1, ints(1)))
}

// TestLimit holds P13.1: ErrResource just if the cost is more than MaxRows, behind what isn't there and ahead of what
// is reckoned, however few rows are kept.
func TestLimit(t *testing.T) {
	l := []api.Named{sized("t", 2000), sized("u", 2001), sized("a", 40), sized("b", 50), sized("c", 51), sized("one", 1), sized("none", 0), sized("most", api.MaxMany), named("bad", many(1, ints(1, 2)))}
	gathers(t, planOf(from(1, "t")), l, many(2000, ints(1)))
	gathers(t, planOf(from(1, "t", "one", "one")), l, many(2000, ints(1)))
	gathers(t, planOf(from(1, "a", "b")), l, many(2000, ints(1)))
	gathers(t, planOf(where(from(1, "a", "b"), same(0, 1))), l, many(2000, ints(1)))
	gathers(t, planOf(telling(from(1, "a", "b"), gives(api.ASum, col(1)))), l, many(1, ints(2000)))
	gathers(t, planOf(from(1, "a", "b"), from(1, "t", "none"), from(1, "none", "most", "most")), l, many(2000, ints(1)))
	gathers(t, planOf(from(1, "most", "most", "none")), l)
	gathers(t, planOf(telling(from(1, "most", "none", "most"), counts())), l, many(1, ints(0)))
	for _, p := range []api.Plan{
		planOf(from(1, "u")), planOf(from(1, "t"), from(1, "one")), planOf(from(1, "one"), from(1, "a", "b")),
		planOf(from(1, "a", "c")), planOf(from(1, "most")), planOf(from(1, "most", "most", "most")),
		planOf(from(1, "a", "a"), from(1, "a", "a")), planOf(from(1, "none"), from(1, "u")),
		planOf(where(from(1, "a", "c"), same(0, 1))), planOf(where(from(1, "u"), null(lit(1)))),
		planOf(where(from(1, "u", "one"), null(col(1)))), planOf(once(telling(from(1, "u"), counts()))),
		planOf(telling(from(1, "u"), tells(unlike()))),
	} {
		refused(t, p, l, api.ErrResource)
	}
	refused(t, planOf(from(1, "u"), from(1, "bad")), l, api.ErrArg)
	refused(t, planOf(from(1, "u"), from(1, "gone")), l, api.ErrName)
	refused(t, planOf(from(1, "u"), api.Part{}), l, api.ErrArg)
}

// TestGreatSources holds P1 and P13.1 of sources without rows beside such that have very many, which no call may put
// side by side, and of as many unlike rows as may be.
func TestGreatSources(t *testing.T) {
	var long, full []api.Many
	for i := range 200000 {
		long = append(long, many(1<<20, ints(i)))
	}
	for i := range 2000 {
		full = append(full, many(1, ints(i)))
	}
	l := []api.Named{named("long", long...), named("none"), named("full", full...), sized("one", 1)}
	for _, c := range []api.Test{{}, same(0, 1), and(same(1, 2), same(0, 2)), compared(api.OpLt, col(0), col(2))} {
		parts := []api.Part{from(1, "long", "long", "none"), from(1, "none", "long", "long"), from(1, "long", "none", "long")}
		for i := range parts {
			parts[i].Where = c
			gathers(t, planOf(telling(parts[i], counts(), gives(api.AMax, col(1)))), l, many(1, row(num(0), nothing)))
		}
		gathers(t, planOf(parts...), l)
	}
	gathers(t, planOf(from(1, "full")), l, full...)
	gathers(t, planOf(by(telling(from(1, "full"), counts()), 0)), l, many(2000, ints(1)))
	gathers(t, planOf(where(from(1, "one", "full"), same(0, 1))), l, many(1, ints(1)))
	gathers(t, planOf(where(from(1, "full", "one"), same(1, 0))), l, many(1, ints(1)))
	gathers(t, planOf(telling(from(1, "full", "one"), gives(api.ASum, col(0)))), l, many(1, ints(1999000)))
}

// TestErrors holds P13.1: errors of what is reckoned of the rows that are kept, and of that alone.
func TestErrors(t *testing.T) {
	l := []api.Named{named("t", many(2, row(num(1), text("a"))), many(1, row(num(3), nothing))), named("u", many(1, ints(1, 1)), many(1, ints(9, 9)))}
	is := func(p api.Part, n int) api.Plan { return planOf(where(p, compared(api.OpEq, col(0), lit(n)))) }
	refused(t, planOf(of(tells(past3()))), l, api.ErrOverflow)
	refused(t, is(of(tells(past3())), 3), l, api.ErrOverflow)
	gathers(t, is(of(tells(past3())), 1), l, many(2, ints(math.MaxInt-1)))
	refused(t, planOf(of(tells(add(lit(1), col(1))))), l, api.ErrType)
	gathers(t, is(of(tells(add(lit(1), col(1)))), 3), l, many(1, row(nothing)))
	refused(t, planOf(of(tells(api.Calc{}))), l, api.ErrType)
	refused(t, planOf(of(tells(lit(1)), tells(calc(api.EAdd, lit(1))))), l, api.ErrType)
	gathers(t, is(of(tells(api.Calc{})), 2), l)
	// A row that no other one joins isn't kept.
	joined := where(telling(from(2, "t", "u"), tells(past3())), same(0, 2))
	gathers(t, planOf(joined), l, many(2, ints(math.MaxInt-1)))
	refused(t, planOf(where(joined, api.Test{})), l, api.ErrOverflow)
	refused(t, planOf(telling(joined, tells(add(col(1), col(2))))), l, api.ErrType)
	// Of ACount nothing is reckoned; of all others E is, of each row that is kept.
	for _, e := range []api.Calc{past(), unlike(), {}, {Kind: 9}} {
		gathers(t, planOf(of(gives(api.ACount, e))), l, many(1, ints(3)))
		want := api.ErrType
		if e.Kind == api.EAdd {
			want = api.ErrOverflow
		}
		for agg := api.ASome; agg <= api.ATotal; agg++ {
			refused(t, planOf(of(gives(agg, e))), l, want)
			refused(t, planOf(by(of(tells(col(0)), gives(agg, e)), 0)), l, want)
		}
	}
	// What is no number has no sum, but is counted, and is the least one.
	for _, agg := range []int{api.ASum, api.ATotal} {
		refused(t, planOf(of(gives(agg, col(1)))), l, api.ErrType)
		refused(t, planOf(by(of(gives(agg, col(1))), 0)), l, api.ErrType)
		refused(t, planOf(of(gives(agg, val(held(1))))), l, api.ErrType)
		refused(t, planOf(of(gives(agg, past3()))), l, api.ErrOverflow)
	}
	gathers(t, planOf(of(gives(api.ASome, col(1)), gives(api.AMin, col(1)), gives(api.AMax, col(1)))), l, many(1, row(num(2), text("a"), text("a"))))
	gathers(t, is(of(gives(api.ASum, col(1)), gives(api.ATotal, col(1))), 3), l, many(1, row(nothing, num(0))))
}

// TestSums holds P13.1: a sum is ErrOverflow just if the whole of it is no number of 64 bits.
func TestSums(t *testing.T) {
	sums := by(of(gives(api.ASum, col(1)), gives(api.ATotal, col(1))), 0)
	for _, c := range []struct {
		l    []api.Many
		want int
		err  api.Errno
	}{
		{[]api.Many{many(2, ints(0, math.MaxInt))}, 0, api.ErrOverflow},
		{[]api.Many{many(1, ints(0, 1)), many(1, ints(0, math.MaxInt))}, 0, api.ErrOverflow},
		{[]api.Many{many(1, ints(0, -1)), many(1, ints(0, 1)), many(1, ints(0, math.MaxInt))}, math.MaxInt, api.OK},
		{[]api.Many{many(1, ints(0, math.MinInt)), many(1, ints(0, 0))}, math.MinInt, api.OK},
		{[]api.Many{many(1, ints(0, math.MinInt)), many(1, ints(0, -1))}, 0, api.ErrOverflow},
		{[]api.Many{many(1000, ints(0, math.MinInt)), many(1000, ints(0, math.MaxInt))}, -1000, api.OK},
		{[]api.Many{many(2, ints(0, 1<<62))}, 0, api.ErrOverflow},
		{[]api.Many{many(2, ints(0, -1<<62))}, math.MinInt, api.OK},
		{[]api.Many{many(1, row(num(0), nothing)), many(3, ints(0, 5))}, 15, api.OK},
	} {
		l := []api.Named{named("t", c.l...)}
		if c.err != api.OK {
			refused(t, planOf(sums), l, c.err)
			continue
		}
		gathers(t, planOf(sums), l, many(1, ints(c.want, c.want)))
	}
}

// TestErrTypeFirst holds P13.1: ErrType, if anything has it, wherever it stands; else the other error.
func TestErrTypeFirst(t *testing.T) {
	l := []api.Named{named("t", many(1, row(num(1), text("a"))), many(2, row(num(3), num(math.MaxInt))), many(1, row(num(5), text("b"))))}
	words := add(col(1), lit(0)) // ErrType of the first row and of the third
	for _, p := range []api.Plan{
		planOf(of(tells(past()), tells(unlike()))),
		planOf(of(tells(unlike()), tells(past()))),
		planOf(of(tells(past()), tells(words))),
		planOf(of(tells(words), tells(past3()))),
		planOf(of(tells(past())), of(tells(unlike()))),
		planOf(of(tells(unlike())), of(tells(past()))),
		planOf(of(tells(past())), of(tells(col(0))), of(gives(api.AMax, words))),
		planOf(of(gives(api.ASum, col(1)))),
		planOf(of(gives(api.ASome, past()), gives(api.AMin, unlike()))),
		planOf(of(gives(api.ASome, unlike()), gives(api.AMin, past()))),
		planOf(by(of(tells(col(0)), gives(api.ASum, past3()), gives(api.ATotal, col(1))), 0)),
		planOf(by(of(gives(api.ASum, past3())), 0), of(gives(api.ASum, words))),
		planOf(of(gives(api.AMax, words)), of(tells(past()))),
		planOf(once(of(tells(past()))), of(gives(api.ASome, words))),
	} {
		refused(t, p, l, api.ErrType)
	}
	for _, p := range []api.Plan{
		planOf(of(tells(col(1))), of(tells(past3()))),
		planOf(of(tells(past3())), of(tells(col(1)))),
		planOf(by(of(tells(col(0)), gives(api.ASum, past3())), 0)),
		planOf(of(gives(api.ASum, mul(col(0), lit(math.MaxInt)))), of(counts())),
		planOf(of(counts()), of(gives(api.AMin, past3()))),
		planOf(once(of(tells(past3())))),
	} {
		refused(t, p, l, api.ErrOverflow)
	}
	// One row's E is past the ends, and another row's value is no number: both are looked at.
	mixed := []api.Named{named("t", many(1, ints(1, 1)), many(1, row(text("a"), num(1))))}
	refused(t, planOf(of(gives(api.ASum, add(col(0), lit(math.MaxInt))))), mixed, api.ErrType)
	for _, agg := range []int{api.ASum, api.ATotal} {
		refused(t, planOf(of(gives(agg, col(0))), of(gives(api.ASome, past()))), mixed, api.ErrType)
		refused(t, planOf(of(gives(api.ASome, past())), of(gives(agg, col(0)))), mixed, api.ErrType)
	}
}
