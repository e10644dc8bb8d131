package shape

import (
	"math"
	"slices"
	"testing"

	"belvedere/api"
)

func num(n int) api.Value     { return api.Value{Kind: api.TInt, N: n} }
func text(s string) api.Value { return api.Value{Kind: api.TText, S: s} }

var nothing = api.Value{}

func col(at int) api.Calc                      { return api.Calc{Kind: api.EColumn, At: at} }
func val(v api.Value) api.Calc                 { return api.Calc{Kind: api.EValue, Val: v} }
func lit(n int) api.Calc                       { return val(num(n)) }
func calc(kind int, args ...api.Calc) api.Calc { return api.Calc{Kind: kind, Args: args} }
func add(a, b api.Calc) api.Calc               { return calc(api.EAdd, a, b) }
func neg(a api.Calc) api.Calc                  { return calc(api.ENeg, a) }

func compared(op int, l, r api.Calc) api.Test {
	return api.Test{Kind: api.CCompare, Op: op, L: l, R: r}
}

func gives(agg int, e api.Calc) api.Out { return api.Out{Agg: agg, E: e} }
func told(e api.Calc) api.Out           { return gives(api.ANone, e) }
func sum(e api.Calc) api.Out            { return gives(api.ASum, e) }
func some(e api.Calc) api.Out           { return gives(api.ASome, e) }

var count = gives(api.ACount, api.Calc{})

func planOf(l ...api.Part) api.Plan { return api.Plan{Parts: l} }

// from is a part that reads those names, each of that width, and tells its first column.
func from(width int, names ...string) api.Part {
	p := api.Part{From: names, Outs: []api.Out{told(col(0))}}
	for range names {
		p.Widths = append(p.Widths, width)
	}
	return p
}

func telling(p api.Part, l ...api.Out) api.Part {
	p.Outs = l
	return p
}

func by(p api.Part, places ...int) api.Part {
	p.Group = places
	return p
}

func where(p api.Part, c api.Test) api.Part {
	p.Where = c
	return p
}

func once(p api.Part) api.Part {
	p.Distinct = true
	return p
}

func refs(t *testing.T, p api.Plan, want ...string) {
	t.Helper()
	if got := Refs(p); !slices.Equal(got, want) {
		t.Errorf("Refs(%+v) = %q, want %q", p, got, want)
	}
}

func place(t *testing.T, p api.Part, agg int, e api.Calc, want int) {
	t.Helper()
	if got := Place(p, agg, e); got != want {
		t.Errorf("Place(%+v, %d, %+v) = %d, want %d", p.Outs, agg, e, got, want)
	}
}

// TestRefs holds P15.2: all names that are read, rising, each once.
func TestRefs(t *testing.T) {
	refs(t, planOf(from(2, "t")), "t")
	refs(t, planOf(from(2, "t", "u", "v")), "t", "u", "v")
	refs(t, planOf(from(2, "v", "u", "t")), "t", "u", "v")
	refs(t, planOf(from(2, "t", "t")), "t")
	refs(t, planOf(from(2, "u", "t", "u")), "t", "u")
	refs(t, planOf(from(2, "u", "t"), from(2, "t")), "t", "u")
	refs(t, planOf(from(1, "b"), from(1, "a"), from(1, "b"), from(1, "c", "a")), "a", "b", "c")
	refs(t, planOf(from(1, "d"), from(1, "c"), from(1, "b"), from(1, "a")), "a", "b", "c", "d")
	refs(t, planOf(by(telling(once(from(1, "u", "t")), count), 0)), "t", "u")
}

// TestRefsOrder holds P15.2: names stand in the order of their bytes.
func TestRefsOrder(t *testing.T) {
	want := []string{"", "\x00", "\x00\x00", "A", "Z", "_", "a", "a\x00", "a_b", "ab", "abc", "b", "t1", "t10", "t2", "z", "\x7f", "\x80", "\xc3", "ä", "\xff", "\xff\x00"}
	turned := slices.Clone(want)
	slices.Reverse(turned)
	refs(t, planOf(from(1, turned...)), want...)
	var l []api.Part
	for _, name := range turned {
		l = append(l, from(1, name, "a", name))
	}
	refs(t, planOf(l...), want...)
	refs(t, planOf(from(1, "T", "t")), "T", "t")
	refs(t, planOf(from(1, "t ", "t", " t")), " t", "t", "t ")
}

// TestRefsOfAnyPlan holds P15.2: names are told of plans that may not be, too, and none where none are read.
func TestRefsOfAnyPlan(t *testing.T) {
	refs(t, api.Plan{})
	refs(t, planOf(api.Part{}))
	refs(t, planOf(api.Part{}, from(1, "t"), api.Part{}), "t")
	refs(t, planOf(api.Part{From: []string{}}))
	refs(t, planOf(api.Part{From: []string{""}}), "")
	refs(t, planOf(api.Part{From: []string{"u", "t", "w", "v", "u"}, Widths: []int{-1}, Group: []int{-1}}), "t", "u", "v", "w")
	refs(t, planOf(from(1, "t"), from(1, "u"), from(1, "v"), from(1, "w"), from(1, "a"), from(1, "b")), "a", "b", "t", "u", "v", "w")
	refs(t, planOf(from(1, slices.Repeat([]string{"v", "u"}, 50000)...)), "u", "v")
	refs(t, planOf(slices.Repeat([]api.Part{from(1, "v", "u")}, 50000)...), "u", "v")
}

// TestPlace holds P15.2: the first Out of that Agg and that E.
func TestPlace(t *testing.T) {
	p := telling(from(2, "t"), told(col(0)), count, sum(col(1)), some(col(1)), gives(api.AMin, col(0)), gives(api.AMax, col(1)), gives(api.ATotal, col(0)), told(lit(5)))
	for at, o := range p.Outs {
		place(t, p, o.Agg, o.E, at)
	}
	for _, agg := range []int{api.ANone, api.ASome, api.ASum, api.AMin, api.AMax, api.ATotal} {
		for _, o := range p.Outs {
			want := slices.IndexFunc(p.Outs, func(other api.Out) bool {
				return other.Agg == agg && other.E.Kind == o.E.Kind && other.E.At == o.E.At && other.E.Val == o.E.Val
			})
			place(t, p, agg, o.E, want)
		}
	}
	place(t, p, api.AMin, col(1), -1)
	place(t, p, api.ASum, col(7), -1)
	place(t, p, api.ANone, col(1), -1)
	place(t, p, api.ANone, lit(6), -1)
	place(t, p, api.ANone, api.Calc{}, -1)
}

// TestPlaceOfCount holds P15.2: of ACount E doesn't count, of all others it does.
func TestPlaceOfCount(t *testing.T) {
	odd := api.Calc{Kind: -5, At: math.MinInt, Val: text("x"), Args: []api.Calc{col(1)}}
	for _, e := range []api.Calc{{}, col(0), col(7), lit(5), add(col(0), lit(1)), odd} {
		for _, counted := range []api.Calc{{}, col(0), col(1), neg(col(1)), odd} {
			p := telling(from(2, "t"), told(col(0)), sum(counted), gives(api.ACount, counted), some(counted), gives(api.ACount, e))
			place(t, p, api.ACount, e, 2)
		}
		place(t, telling(from(2, "t"), told(e), sum(e), some(e), gives(api.AMin, e)), api.ACount, e, -1)
		place(t, telling(from(2, "t"), count), api.ACount, e, 0)
		place(t, telling(from(2, "t"), count), api.ASome, api.Calc{}, -1)
		place(t, telling(from(2, "t"), count), api.ANone, api.Calc{}, -1)
	}
}

// TestPlaceFirst holds P15.2: of several Outs alike the first is told, whatever they are called.
func TestPlaceFirst(t *testing.T) {
	called := func(o api.Out, name string, kind int) api.Out {
		o.Name, o.Type = name, kind
		return o
	}
	p := telling(from(2, "t"), sum(col(0)), called(sum(col(1)), "a", api.TInt), sum(col(1)), called(sum(col(0)), "b", -4), called(count, "n", api.TInt), count, called(told(col(1)), "c", api.TText), told(col(1)))
	place(t, p, api.ASum, col(0), 0)
	place(t, p, api.ASum, col(1), 1)
	place(t, p, api.ACount, col(1), 4)
	place(t, p, api.ANone, col(1), 6)
	place(t, telling(p, slices.Repeat([]api.Out{some(col(3))}, 5)...), api.ASome, col(3), 0)
	place(t, telling(p, append(slices.Repeat([]api.Out{some(col(3))}, 50000), some(col(4)), some(col(4)))...), api.ASome, col(4), 50000)
}

// TestPlaceOfAny holds P15.2: of no Outs none, and of Aggs that are none by their number.
func TestPlaceOfAny(t *testing.T) {
	place(t, api.Part{}, api.ACount, col(0), -1)
	place(t, api.Part{}, api.ANone, api.Calc{}, -1)
	place(t, telling(from(2, "t"), api.Out{}), api.ANone, api.Calc{}, 0)
	p := telling(from(2, "t"), gives(7, col(0)), gives(-1, col(0)), gives(math.MaxInt, col(0)), gives(math.MinInt, col(1)), gives(257, api.Calc{}), gives(1+1<<32, api.Calc{}))
	place(t, p, 7, col(0), 0)
	place(t, p, -1, col(0), 1)
	place(t, p, math.MaxInt, col(0), 2)
	place(t, p, math.MinInt, col(1), 3)
	place(t, p, math.MinInt, col(0), -1)
	place(t, p, 7, col(1), -1)
	place(t, p, 8, col(0), -1)
	place(t, p, api.ACount, api.Calc{}, -1)
	place(t, p, api.ACount, col(0), -1)
}

// different are expressions no two of which are one, field by field.
func different() []api.Calc {
	shared := []api.Calc{col(0), lit(1)}
	return []api.Calc{
		{},
		col(0), col(1), col(-1), col(256), col(math.MaxInt), col(math.MinInt), col(1 << 32),
		{Kind: api.EColumn, Val: num(0)}, {Kind: api.EColumn, Val: api.Value{N: 1}}, {Kind: api.EColumn, Val: text("")}, {Kind: api.EColumn, Val: api.Value{S: "a"}},
		{Kind: api.EColumn, Args: []api.Calc{{}}}, {Kind: api.EColumn, Args: []api.Calc{col(0)}}, {Kind: api.EColumn, Args: []api.Calc{{}, {}}},
		val(nothing), lit(0), lit(1), lit(math.MaxInt), lit(math.MinInt), val(api.Value{Kind: api.TBool}), val(api.Value{Kind: api.TBool, N: 1}),
		val(text("")), val(text("a")), val(text("A")), val(text("a ")), val(text("a\x00")), val(api.Value{Kind: api.TInt, S: "a"}), val(api.Value{Kind: -1}), val(api.Value{Kind: 77, N: 1, S: "x"}),
		{Kind: api.EValue, At: 1, Val: num(0)}, {Kind: api.EValue, At: -1, Val: num(0)}, {Kind: api.EValue, Val: num(0), Args: []api.Calc{lit(0)}},
		calc(api.EAdd), calc(api.EAdd, col(0)), calc(api.EAdd, shared...), calc(api.ESub, shared...), calc(api.EMul, shared...), calc(api.ENeg, shared...),
		add(lit(1), col(0)), add(col(0), lit(2)), add(col(1), lit(1)), calc(api.EAdd, col(0), lit(1), lit(1)),
		{Kind: api.EAdd, At: 1, Args: shared}, {Kind: api.EAdd, Val: num(0), Args: shared}, {Kind: api.EAdd, Val: text("a"), Args: shared},
		neg(col(0)), neg(neg(col(0))), neg(neg(neg(col(0)))), neg(neg(neg(col(1)))), neg(add(col(0), lit(1))), neg(add(col(0), lit(2))),
		add(add(col(0), lit(1)), lit(2)), add(col(0), add(lit(1), lit(2))), add(neg(col(0)), lit(1)), add(neg(api.Calc{Kind: api.EColumn, Val: num(9)}), lit(1)),
		{Kind: 7, Args: shared}, {Kind: -1, Args: shared}, {Kind: 0, Args: shared}, {At: 1}, {Kind: math.MaxInt}, {Kind: math.MinInt}, {Kind: 258},
	}
}

// TestEachFieldCounts holds P15.2: expressions are held against each other field by field, Args too.
func TestEachFieldCounts(t *testing.T) {
	for _, agg := range []int{api.ANone, api.ASome, api.ASum, api.AMin, api.AMax, api.ATotal, 9} {
		p := api.Part{}
		for _, e := range different() {
			p.Outs = append(p.Outs, gives(agg, e))
		}
		for at, e := range different() {
			place(t, p, agg, e, at)
			place(t, telling(p, slices.Delete(slices.Clone(p.Outs), at, at+1)...), agg, e, -1)
			place(t, p, agg+10, e, -1)
			for _, kind := range []int{api.EAdd, api.EColumn, 99} {
				below := telling(p, gives(agg, calc(kind, lit(3), different()[at], lit(4))))
				place(t, below, agg, calc(kind, lit(3), e, lit(4)), 0)
				other := different()[(at+1)%len(different())]
				place(t, below, agg, calc(kind, lit(3), other, lit(4)), -1)
			}
		}
	}
}

// TestNoArgs holds rule 2 in P15.2: a list of Args that holds nothing may be nil or empty.
func TestNoArgs(t *testing.T) {
	empty := api.Calc{Kind: api.EColumn, At: 1, Args: []api.Calc{}}
	place(t, telling(from(2, "t"), told(col(1))), api.ANone, empty, 0)
	place(t, telling(from(2, "t"), told(empty)), api.ANone, col(1), 0)
	place(t, telling(from(2, "t"), sum(neg(empty))), api.ASum, neg(col(1)), 0)
	place(t, telling(from(2, "t"), sum(neg(col(1)))), api.ASum, neg(empty), 0)
	fast(t, planOf(by(telling(from(2, "t"), told(empty), count, sum(empty), some(col(1))), 1)), true)
}
