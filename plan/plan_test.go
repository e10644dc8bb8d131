package plan

import (
	"math"
	"slices"
	"testing"

	"belvedere/api"
)

func num(n int) api.Value     { return api.Value{Kind: api.TInt, N: n} }
func held(n int) api.Value    { return api.Value{Kind: api.TBool, N: n} }
func text(s string) api.Value { return api.Value{Kind: api.TText, S: s} }

var nothing = api.Value{}

func row(l ...api.Value) []api.Value { return l }

// ints is a row of numbers.
func ints(l ...int) []api.Value {
	var r []api.Value
	for _, n := range l {
		r = append(r, num(n))
	}
	return r
}

func many(n int, r []api.Value) api.Many { return api.Many{Row: r, N: n} }

func named(name string, l ...api.Many) api.Named { return api.Named{Name: name, Rows: l} }

func col(at int, args ...api.Calc) api.Calc {
	return api.Calc{Kind: api.EColumn, At: at, Args: args}
}

func val(v api.Value) api.Calc                 { return api.Calc{Kind: api.EValue, Val: v} }
func lit(n int) api.Calc                       { return val(num(n)) }
func calc(kind int, args ...api.Calc) api.Calc { return api.Calc{Kind: kind, Args: args} }
func add(a, b api.Calc) api.Calc               { return calc(api.EAdd, a, b) }
func mul(a, b api.Calc) api.Calc               { return calc(api.EMul, a, b) }
func compared(op int, l, r api.Calc) api.Test {
	return api.Test{Kind: api.CCompare, Op: op, L: l, R: r}
}
func null(l api.Calc) api.Test                 { return api.Test{Kind: api.CNull, L: l} }
func some(l api.Calc) api.Test                 { return api.Test{Kind: api.CSome, L: l} }
func join(kind int, args ...api.Test) api.Test { return api.Test{Kind: kind, Args: args} }
func gives(agg int, e api.Calc) api.Out        { return api.Out{Agg: agg, E: e} }
func tells(e api.Calc) api.Out                 { return gives(api.ANone, e) }
func counts() api.Out                          { return api.Out{Agg: api.ACount} }
func outs(l ...api.Out) []api.Out              { return l }
func planOf(l ...api.Part) api.Plan            { return api.Plan{Parts: l} }
func with(p api.Part, turn func(*api.Part)) api.Part {
	turn(&p)
	return p
}

// from is a part that reads those names, each of that width.
func from(width int, names ...string) api.Part {
	p := api.Part{From: names, Outs: outs(tells(col(0)))}
	for range names {
		p.Widths = append(p.Widths, width)
	}
	return p
}

// of is a part over t, of that width, which tells l.
func of(width int, l ...api.Out) api.Part {
	p := from(width, "t")
	p.Outs = l
	return p
}

// grouped is a part over t, of two columns, by the first one.
func grouped(l ...api.Out) api.Part {
	p := of(2, l...)
	p.Group = []int{0}
	return p
}

// farPlaces are places that no row of two columns has.
func farPlaces() []int { return []int{math.MinInt, -1, 2, 3, 24, 257, math.MaxInt} }

// may holds what Right tells of a plan of p alone, and of p behind one that may be.
func may(t *testing.T, p api.Part, want bool) {
	t.Helper()
	if got := Right(planOf(p)); got != want {
		t.Errorf("Right of %+v: %t, want %t", p, got, want)
	}
	ahead := of(1, slices.Repeat(outs(tells(col(0))), max(1, min(len(p.Outs), api.MaxItems)))...)
	if got := Right(planOf(ahead, p)); got != (want && len(p.Outs) == len(ahead.Outs)) {
		t.Errorf("Right of another part and %+v: %t, want %t", p, got, want)
	}
}

// TestRightSources holds P12.1: how many sources a part has, and how wide they are.
func TestRightSources(t *testing.T) {
	names := []string{"t", "t", "", "a name that is longer than any may be", "u"}
	for n := range len(names) + 1 {
		for w := range 11 {
			p := api.Part{From: names[:n], Widths: slices.Repeat([]int{w}, n), Outs: outs(tells(lit(1)))}
			may(t, p, n >= 1 && n <= 3 && w >= 1 && w <= 8)
			p.Widths = slices.Repeat([]int{w}, n+1)
			may(t, p, false)
			if n > 0 {
				p.Widths = p.Widths[:n-1]
				may(t, p, false)
			}
		}
	}
	for _, w := range []int{math.MinInt, -8, -1, 0, 9, 256 + 1, 1<<32 + 1, math.MaxInt} {
		for i := range 3 {
			p := from(3, "t", "u", "v")
			p.Widths[i] = w
			may(t, p, false)
		}
	}
	may(t, with(from(1, "t", "u", "v"), func(p *api.Part) { p.Widths = []int{8, 1, 5} }), true)
	may(t, with(from(1, "t", "u", "v"), func(p *api.Part) { p.Widths = []int{math.MaxInt, math.MaxInt, 10} }), false)
	may(t, with(from(1, "t"), func(p *api.Part) { p.From, p.Widths = nil, nil }), false)
}

// TestRightOuts holds P12.1: how many Outs a part has, and their Aggs.
func TestRightOuts(t *testing.T) {
	for n := range 11 {
		may(t, of(2, slices.Repeat(outs(tells(col(1))), n)...), n >= 1 && n <= 8)
		may(t, of(2, slices.Repeat(outs(counts()), n)...), n >= 1 && n <= 8)
	}
	for agg := -3; agg < 10; agg++ {
		may(t, of(2, gives(agg, col(1))), agg >= 0 && agg <= 6)
		may(t, of(2, counts(), gives(agg, col(1))), agg >= 1 && agg <= 6)
		may(t, grouped(counts(), gives(agg, col(0))), agg >= 0 && agg <= 6)
	}
	for _, agg := range []int{math.MinInt, 256, 1 << 32, math.MaxInt} {
		may(t, of(2, gives(agg, col(1))), false)
		may(t, grouped(tells(col(0)), gives(agg, col(1))), false)
	}
	may(t, of(2, api.Out{E: col(1), Name: "any", Type: 77}), true)
	may(t, with(of(2, tells(col(1))), func(p *api.Part) { p.Distinct = true }), true)
}

// TestRightGroup holds P12.1: a group's columns, and what is told of one.
func TestRightGroup(t *testing.T) {
	for n := range 7 {
		p := of(8, counts())
		p.Group = []int{7, 0, 3, 3, 1, 2}[:min(n, 6)]
		may(t, p, n <= 4)
	}
	for _, at := range farPlaces() {
		may(t, with(of(2, counts()), func(p *api.Part) { p.Group = []int{at} }), false)
		may(t, with(of(2, counts()), func(p *api.Part) { p.Group = []int{1, 0, 1, at} }), false)
	}
	for _, c := range []struct {
		p    api.Part
		want bool
	}{
		{grouped(tells(col(0))), true},
		{grouped(tells(col(1))), false},
		{grouped(tells(col(0)), tells(col(1))), false},
		{grouped(tells(col(0)), tells(col(0)), gives(api.ASum, col(1))), true},
		{grouped(tells(lit(1))), false},
		{grouped(tells(add(col(0), lit(1)))), false},
		{grouped(tells(calc(api.ENeg, col(0)))), false},
		{grouped(tells(col(0, lit(1), col(1)))), true},
		{grouped(tells(api.Calc{})), false},
		{grouped(tells(api.Calc{Kind: 7})), false},
		{grouped(gives(api.ASum, add(col(0), col(1)))), true},
		{of(2, counts(), tells(col(0))), false},
		{of(2, tells(col(0)), counts()), false},
		{of(2, counts(), tells(lit(1))), false},
		{of(2, tells(lit(1)), tells(api.Calc{}), tells(add(col(0), col(1)))), true},
		{of(2, counts(), gives(api.ASome, api.Calc{}), gives(api.AMax, add(col(0), col(1)))), true},
		{with(grouped(tells(col(1)), tells(col(0))), func(p *api.Part) { p.Group = []int{0, 1} }), true},
		{with(grouped(tells(col(1)), tells(col(0))), func(p *api.Part) { p.Group = []int{1, 1} }), false},
	} {
		may(t, c.p, c.want)
	}
}

// TestRightPlaces holds P12.1: all that is read is there, wherever it stands in an expression or a condition.
func TestRightPlaces(t *testing.T) {
	tries := func(at int, want bool) {
		for _, e := range []api.Calc{col(at), add(lit(1), col(at)), add(add(col(at), lit(1)), lit(1)), col(0, col(at)), calc(9, col(at)), {Kind: api.EValue, Args: []api.Calc{col(at)}}} {
			for agg := api.ANone; agg <= api.ATotal; agg++ {
				may(t, of(2, gives(agg, e)), want)
				may(t, of(2, gives(agg, lit(1)), gives(agg, e)), want)
			}
			for _, c := range []api.Test{compared(api.OpEq, e, lit(1)), compared(api.OpEq, lit(1), e), null(e), {L: e}, {R: e}, {Kind: 99, R: e}} {
				for _, c := range []api.Test{c, join(api.CNot, c), join(api.CAnd, null(col(0)), join(api.COr, null(col(1)), c)), {Args: []api.Test{c}}} {
					may(t, with(of(2, tells(col(1))), func(p *api.Part) { p.Where = c }), want)
					may(t, with(grouped(tells(col(0))), func(p *api.Part) { p.Where = c }), want)
				}
			}
		}
	}
	tries(0, true)
	tries(1, true)
	for _, at := range farPlaces() {
		tries(at, false)
	}
	// A field that isn't an EColumn's counts for nothing.
	may(t, of(2, tells(api.Calc{Kind: api.EValue, At: 99}), tells(api.Calc{Kind: api.EAdd, At: -5})), true)
	may(t, of(2, gives(api.AMin, api.Calc{Kind: api.ENeg, At: 2}), gives(api.ACount, api.Calc{At: 99})), true)
	wide := with(from(8, "t", "t", "t"), func(p *api.Part) { p.Widths[1] = 3 })
	for at := -1; at < 26; at++ {
		want := at >= 0 && at < 8+3+8
		may(t, with(wide, func(p *api.Part) { p.Outs = outs(tells(col(at))) }), want)
		may(t, with(wide, func(p *api.Part) { p.Where = null(col(at)) }), want)
		may(t, with(wide, func(p *api.Part) { p.Outs, p.Group = outs(counts()), []int{at} }), want)
	}
}

// TestRightParts holds P12.1: how many parts a plan has, with as many Outs each.
func TestRightParts(t *testing.T) {
	for n := range 7 {
		if got := Right(planOf(slices.Repeat([]api.Part{of(2, tells(col(0)))}, n)...)); got != (n >= 1 && n <= 4) {
			t.Errorf("%d parts: %t", n, got)
		}
	}
	one, two, wrong := of(2, tells(col(1))), grouped(tells(col(0)), counts()), of(2, tells(col(2)))
	for _, c := range []struct {
		p    api.Plan
		want bool
	}{
		{api.Plan{}, false},
		{planOf(api.Part{}), false},
		{planOf(one, of(1, counts()), one), true},
		{planOf(two, two), true},
		{planOf(one, two), false},
		{planOf(two, one), false},
		{planOf(two, two, two, one), false},
		{planOf(wrong), false},
		{planOf(wrong, one, one, one), false},
		{planOf(one, one, one, wrong), false},
		{planOf(one, api.Part{}), false},
		{planOf(api.Part{}, api.Part{}), false},
	} {
		if got := Right(c.p); got != c.want {
			t.Errorf("Right(%+v) = %t, want %t", c.p, got, c.want)
		}
	}
}

// TestGrouped holds P12.1, of Grouped, of any part.
func TestGrouped(t *testing.T) {
	for _, c := range []struct {
		p    api.Part
		want bool
	}{
		{api.Part{}, false},
		{of(2, tells(col(0))), false},
		{of(2, tells(col(0)), tells(lit(1))), false},
		{with(of(2, tells(col(0))), func(p *api.Part) { p.Distinct, p.Group = true, []int{} }), false},
		{of(2, counts()), true},
		{of(2, tells(col(0)), tells(col(0)), gives(api.AMin, col(1))), true},
		{grouped(tells(col(0))), true},
		{grouped(counts()), true},
		{api.Part{Group: []int{-9}}, true},
		{api.Part{Outs: outs(tells(col(0)), gives(api.ATotal, col(99)))}, true},
	} {
		if got := Grouped(c.p); got != c.want {
			t.Errorf("Grouped(%+v) = %t, want %t", c.p, got, c.want)
		}
	}
	for agg := api.ACount; agg <= api.ATotal; agg++ {
		if !Grouped(of(1, gives(agg, col(0)))) {
			t.Errorf("Agg %d doesn't group", agg)
		}
	}
}
