package plan

import (
	"math"
	"slices"
	"testing"

	"belvedere/api"
)

// sized is a name with that many rows.
func sized(name string, n int) api.Named {
	if n == 0 {
		return named(name)
	}
	return named(name, many(n, ints(1)))
}

func costs(t *testing.T, p api.Plan, l []api.Named, want int) {
	t.Helper()
	if got := Cost(p, l); got != want {
		t.Errorf("Cost(%+v, %+v) = %d, want %d", p, l, got, want)
	}
}

// TestCost holds P12.1, of Cost: products of how many rows there are, part by part.
func TestCost(t *testing.T) {
	l := []api.Named{sized("t", 3), sized("u", 5), sized("v", 7), sized("none", 0), sized("t", 1000), sized("", 11)}
	for _, c := range []struct {
		p    api.Plan
		want int
	}{
		{planOf(from(1, "t")), 3},
		{planOf(from(1, "t", "u")), 15},
		{planOf(from(1, "t", "u", "v")), 105},
		{planOf(from(1, "t", "t", "t")), 27},
		{planOf(from(1, "none")), 0},
		{planOf(from(1, "t", "none", "u")), 0},
		{planOf(from(1, "")), 11},
		{planOf(from(1, "T")), 0},
		{planOf(from(1, "w")), 0},
		{planOf(from(1, "t", "w")), 0},
		{planOf(from(1, "w"), from(1, "t")), 3},
		{planOf(from(1, "t"), from(1, "u", "v"), from(1, "none"), from(1, "u")), 43},
		{planOf(from(1, "t"), from(1, "t")), 6},
		{api.Plan{}, 0},
		{planOf(api.Part{}), 1},
		{planOf(api.Part{}, from(1, "v"), api.Part{}), 9},
		{planOf(from(0, "t", "u", "v", "t")), 315},
		{planOf(with(from(1, "u"), func(p *api.Part) { p.Widths, p.Outs = nil, nil })), 5},
	} {
		costs(t, c.p, l, c.want)
	}
	costs(t, planOf(from(1, "t"), api.Part{}), nil, 1)
	costs(t, planOf(slices.Repeat([]api.Part{from(1, "t", "u")}, 9)...), l, 135)
}

// TestCostCounts holds P12.1: a source has as many rows as its numbers say, of any list of rows.
func TestCostCounts(t *testing.T) {
	for _, c := range []struct {
		rows []api.Many
		want int
	}{
		{[]api.Many{many(2, ints(1)), many(3, ints(2, 3))}, 5},
		{[]api.Many{many(2, ints(1)), many(2, ints(1)), many(0, nil)}, 4},
		{[]api.Many{many(2, ints(1)), many(-2, ints(1))}, 2},
		{[]api.Many{many(-7, ints(1)), many(2, ints(1)), many(math.MinInt, ints(1)), many(4, nil)}, 6},
		{[]api.Many{many(-7, ints(1))}, 0},
		{[]api.Many{many(0, ints(1))}, 0},
		{[]api.Many{many(math.MinInt, nil), many(math.MinInt, nil)}, 0},
		{[]api.Many{many(api.MaxMany-1, nil)}, api.MaxMany - 1},
		{[]api.Many{many(api.MaxMany, nil)}, api.MaxMany},
		{[]api.Many{many(api.MaxMany+1, nil)}, api.MaxMany},
		{[]api.Many{many(api.MaxMany-1, nil), many(1, nil)}, api.MaxMany},
		{[]api.Many{many(api.MaxMany-2, nil), many(1, nil)}, api.MaxMany - 1},
		{[]api.Many{many(api.MaxMany, nil), many(-api.MaxMany, nil), many(-1, nil)}, api.MaxMany},
		{[]api.Many{many(math.MaxInt, nil)}, api.MaxMany},
		{[]api.Many{many(math.MaxInt, nil), many(math.MaxInt, nil), many(2, nil)}, api.MaxMany},
		{[]api.Many{many(math.MaxInt, nil), many(1, nil), many(math.MinInt, nil)}, api.MaxMany},
		{[]api.Many{many(math.MinInt, nil), many(1, nil)}, 1},
		{slices.Repeat([]api.Many{many(1<<62, nil)}, 8), api.MaxMany},
	} {
		costs(t, planOf(from(1, "t")), []api.Named{named("t", c.rows...)}, c.want)
	}
}

// TestCostEnds holds P12.1: MaxMany, where the cost is more, and 0 beside a source without rows.
func TestCostEnds(t *testing.T) {
	l := []api.Named{sized("most", api.MaxMany), sized("more", math.MaxInt), sized("half", api.MaxMany/2), sized("root", 1<<20), sized("over", 1<<20+1), sized("under", 1<<20-1), sized("two", 2), sized("one", 1), sized("none", 0), sized("word", 1<<32), sized("sign", 1<<23), sized("big", 1<<39+1)}
	for _, c := range []struct {
		p    api.Plan
		want int
	}{
		{planOf(from(1, "most", "one", "one")), api.MaxMany},
		{planOf(from(1, "more", "none")), 0},
		{planOf(from(1, "none", "more", "most")), 0},
		{planOf(from(1, "more", "most", "none")), 0},
		{planOf(from(1, "more", "more", "w")), 0},
		{planOf(from(1, "more", "more", "more")), api.MaxMany},
		{planOf(from(1, "most", "most", "most")), api.MaxMany},
		{planOf(from(1, "word", "word")), api.MaxMany},
		{planOf(from(1, "word", "word", "two")), api.MaxMany},
		{planOf(from(1, "most", "sign")), api.MaxMany},
		{planOf(from(1, "sign", "most", "two")), api.MaxMany},
		{planOf(from(1, "most", "sign"), from(1, "most", "sign")), api.MaxMany},
		{planOf(from(1, "root", "root")), api.MaxMany},
		{planOf(from(1, "root", "under")), api.MaxMany - 1<<20},
		{planOf(from(1, "over", "under")), api.MaxMany - 1},
		{planOf(from(1, "over", "root")), api.MaxMany},
		{planOf(from(1, "half", "two")), api.MaxMany},
		{planOf(from(1, "big", "two")), api.MaxMany},
		{planOf(from(1, "half"), from(1, "half")), api.MaxMany},
		{planOf(from(1, "half"), from(1, "over", "under")), api.MaxMany},
		{planOf(from(1, "over", "under"), from(1, "one")), api.MaxMany},
		{planOf(from(1, "over", "under"), from(1, "two")), api.MaxMany},
		{planOf(from(1, "over", "under"), from(1, "more", "none")), api.MaxMany - 1},
		{planOf(from(1, "more"), from(1, "more"), from(1, "none")), api.MaxMany},
		{planOf(from(1, "half"), from(1, "two")), api.MaxMany/2 + 2},
	} {
		costs(t, c.p, l, c.want)
	}
	costs(t, planOf(slices.Repeat([]api.Part{from(1, "half")}, 4096)...), l, api.MaxMany)
	costs(t, planOf(from(1, slices.Repeat([]string{"two"}, 39)...)), l, 1<<39)
	costs(t, planOf(from(1, slices.Repeat([]string{"two"}, 5000)...)), l, api.MaxMany)
	costs(t, planOf(from(1, append(slices.Repeat([]string{"more"}, 5000), "none")...)), l, 0)
}

func ready(t *testing.T, p api.Plan, l []api.Named, want api.Errno) {
	t.Helper()
	if got := Ready(p, l); got != want {
		t.Errorf("Ready(%+v, %+v) = %d, want %d", p, l, got, want)
	}
	if rows, err := Rows(p, l); want != api.OK && (err != want || len(rows) > 0) {
		t.Errorf("Rows(%+v, %+v) = %+v, %d, want %d", p, l, rows, err, want)
	}
}

// TestReady holds P12.1, of Ready: what is there, and what isn't.
func TestReady(t *testing.T) {
	l := []api.Named{named("t", many(2, ints(1, 5)), many(1, ints(2, 7))), named("u"), named("v", many(1, ints(3))), named("", many(1, ints(3)))}
	wrong := of(2, tells(col(2)))
	ready(t, planOf(from(2, "t")), l, api.OK)
	ready(t, planOf(from(2, "t", "u", "t")), l, api.OK)
	ready(t, planOf(from(1, "v"), from(8, "u"), from(1, "u", "", "v")), l, api.OK)
	ready(t, planOf(from(1, "t")), l, api.ErrArg)
	ready(t, planOf(from(3, "t")), l, api.ErrArg)
	ready(t, planOf(from(2, "v")), l, api.ErrArg)
	ready(t, planOf(from(2, "w")), l, api.ErrName)
	ready(t, planOf(from(2, "T")), l, api.ErrName)
	ready(t, planOf(from(2, "t ")), l, api.ErrName)
	ready(t, planOf(from(2, "")), l[:3], api.ErrName)
	ready(t, planOf(from(2, "t")), nil, api.ErrName)
	ready(t, planOf(wrong), l, api.ErrArg)
	ready(t, planOf(wrong), nil, api.ErrArg)
	ready(t, planOf(from(2, "t"), wrong), l, api.ErrArg)
	ready(t, planOf(from(2, "w"), wrong), l, api.ErrArg)
	ready(t, api.Plan{}, l, api.ErrArg)
	ready(t, planOf(from(2, "t", "u", "t", "u")), l, api.ErrArg)
}

// TestReadyFirstFault holds P12.1: source by source, part by part, the first fault is told.
func TestReadyFirstFault(t *testing.T) {
	l := []api.Named{named("t", many(1, ints(1, 2))), named("bad", many(1, ints(1)))}
	good, gone, bad := from(2, "t"), from(2, "w"), from(2, "bad")
	for _, c := range []struct {
		p    api.Plan
		want api.Errno
	}{
		{planOf(from(2, "t", "w", "bad")), api.ErrName},
		{planOf(from(2, "t", "bad", "w")), api.ErrArg},
		{planOf(from(2, "w", "bad", "t")), api.ErrName},
		{planOf(from(2, "bad", "w", "t")), api.ErrArg},
		{planOf(from(2, "t", "t", "w")), api.ErrName},
		{planOf(from(2, "t", "t", "bad")), api.ErrArg},
		{planOf(good, gone, bad), api.ErrName},
		{planOf(good, bad, gone), api.ErrArg},
		{planOf(good, good, good, gone), api.ErrName},
		{planOf(good, good, good, bad), api.ErrArg},
		{planOf(from(2, "t", "t", "w"), bad), api.ErrName},
		{planOf(from(2, "t", "bad"), gone), api.ErrArg},
		{planOf(with(from(2, "t", "w"), func(p *api.Part) { p.Widths[0] = 1 })), api.ErrArg},
		{planOf(with(from(2, "w", "t"), func(p *api.Part) { p.Widths[1] = 1 })), api.ErrName},
	} {
		ready(t, c.p, l, c.want)
	}
}

// TestReadyBags holds P12.1: rows are a plain bag of rows of their width, each of them.
func TestReadyBags(t *testing.T) {
	for _, c := range []struct {
		rows []api.Many
		want api.Errno
	}{
		{nil, api.OK},
		{[]api.Many{}, api.OK},
		{[]api.Many{many(1, ints(1, 2))}, api.OK},
		{[]api.Many{many(1, ints(1, 2)), many(3, ints(1, 3)), many(1, ints(2, 0))}, api.OK},
		{[]api.Many{many(1, row(text("any"), api.Value{Kind: 77, N: 5, S: "x"}))}, api.OK},
		{[]api.Many{many(1, ints(2, 0)), many(1, ints(1, 2))}, api.ErrArg},
		{[]api.Many{many(1, ints(1, 2)), many(1, ints(1, 2))}, api.ErrArg},
		{[]api.Many{many(0, ints(1, 2))}, api.ErrArg},
		{[]api.Many{many(-1, ints(1, 2))}, api.ErrArg},
		{[]api.Many{many(1, ints(1, 2)), many(-1, ints(1, 3))}, api.ErrArg},
		{[]api.Many{many(api.MaxMany+1, ints(1, 2))}, api.ErrArg},
		{[]api.Many{many(math.MaxInt, ints(1, 2))}, api.ErrArg},
		{[]api.Many{many(1, nil)}, api.ErrArg},
		{[]api.Many{many(1, ints(1))}, api.ErrArg},
		{[]api.Many{many(1, ints(1, 2, 3))}, api.ErrArg},
		{[]api.Many{many(1, ints(1, 2)), many(1, ints(1, 2, 3))}, api.ErrArg},
		{[]api.Many{many(1, ints(1)), many(1, ints(1, 2))}, api.ErrArg},
		{[]api.Many{many(1, ints(1, 2)), many(1, ints(2))}, api.ErrArg},
	} {
		l := []api.Named{named("u", many(1, ints(1, 2))), named("t", c.rows...)}
		ready(t, planOf(from(2, "t")), l, c.want)
		ready(t, planOf(from(2, "u", "t", "u")), l, c.want)
		ready(t, planOf(from(2, "u"), from(2, "u", "t")), l, c.want)
		// What no part reads doesn't count, nor what stands behind one of the same name.
		ready(t, planOf(from(2, "u")), l, api.OK)
		ready(t, planOf(from(2, "t")), append([]api.Named{named("t", many(1, ints(1, 2)))}, l...), api.OK)
		ready(t, planOf(from(2, "t")), append(l, named("t", many(1, ints(1, 2)))), c.want)
	}
	most := []api.Named{named("t", many(api.MaxMany, ints(1, 2)))}
	if err := Ready(planOf(from(2, "t")), most); err != api.OK {
		t.Errorf("Ready of MaxMany rows: %d", err)
	}
}
