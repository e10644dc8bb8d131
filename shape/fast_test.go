package shape

import (
	"math"
	"slices"
	"testing"

	"belvedere/api"
)

func fast(t *testing.T, p api.Plan, want bool) {
	t.Helper()
	if got := Fast(p); got != want {
		t.Errorf("Fast(%+v) = %t", p, got)
	}
}

// sums is a part by the table: by the first column it, ACount, ASum and ASome of the second.
func sums() api.Part {
	return by(telling(from(2, "t"), told(col(0)), count, sum(col(1)), some(col(1))), 0)
}

// TestExample holds the chapter's example.
func TestExample(t *testing.T) {
	p := sums()
	fast(t, planOf(p), true)
	fast(t, planOf(telling(p, p.Outs[:3]...)), false)
}

// TestUngrouped holds P15.1: plans without groups can be refreshed fast, if no part has Distinct.
func TestUngrouped(t *testing.T) {
	a, b, c := from(2, "t"), where(from(1, "u", "v", "t"), compared(api.OpLt, col(0), col(2))), telling(from(3, "w"), told(add(col(2), lit(1))))
	for _, l := range [][]api.Part{{a}, {b}, {c}, {a, b}, {a, b, c}, {a, a, a, a}, {c, b, a, b}} {
		fast(t, planOf(l...), true)
		for i := range l {
			l[i].Distinct = true
			fast(t, planOf(l...), false)
			l[i].Distinct = false
		}
	}
	fast(t, planOf(telling(from(2, "t"), told(col(0)), told(col(0)), told(lit(1)), told(val(nothing)))), true)
	fast(t, planOf(once(a), once(b)), false)
}

// TestMayNotBe holds P15.1: a plan that may not be can't be refreshed, however it looks else.
func TestMayNotBe(t *testing.T) {
	good := sums()
	fast(t, api.Plan{}, false)
	fast(t, api.Plan{Parts: []api.Part{}}, false)
	fast(t, planOf(api.Part{}), false)
	fast(t, planOf(slices.Repeat([]api.Part{from(1, "t")}, 5)...), false)
	fast(t, planOf(from(1, "t", "t", "t", "t")), false)
	fast(t, planOf(from(0, "t")), false)
	fast(t, planOf(from(9, "t")), false)
	fast(t, planOf(from(8, "t")), true)
	fast(t, planOf(telling(from(2, "t"))), false)
	fast(t, planOf(telling(from(2, "t"), slices.Repeat([]api.Out{told(col(1))}, 9)...)), false)
	fast(t, planOf(telling(from(2, "t"), slices.Repeat([]api.Out{told(col(1))}, 8)...)), true)
	fast(t, planOf(telling(from(2, "t"), told(col(2)))), false)
	fast(t, planOf(telling(from(2, "t"), told(col(-1)))), false)
	fast(t, planOf(where(from(2, "t"), compared(api.OpEq, col(0), col(2)))), false)
	fast(t, planOf(where(good, compared(api.OpEq, col(0), col(1)))), true)
	fast(t, planOf(where(good, compared(api.OpEq, col(0), col(2)))), false)
	fast(t, planOf(from(2, "t"), telling(from(2, "t"), told(col(0)), told(col(1)))), false)
	fast(t, planOf(from(2, "t"), api.Part{}), false)
	for _, outs := range [][]api.Out{{gives(7, col(1))}, {gives(-1, col(1))}, {gives(math.MaxInt, col(1))}, {told(col(1))}, {told(lit(1))}, {told(add(col(0), col(0)))}, {sum(col(2)), some(col(2))}, {gives(api.ACount, col(2))}, {some(col(-1))}} {
		fast(t, planOf(telling(good, append(outs, good.Outs...)...)), false)
		fast(t, planOf(telling(good, append(slices.Clone(good.Outs), outs...)...)), false)
	}
	fast(t, planOf(by(good, 0, 0, 0, 0)), true)
	fast(t, planOf(by(good, 0, 0, 0, 0, 0)), false)
	fast(t, planOf(by(telling(from(2, "t"), told(col(2)), count), 2)), false)
	fast(t, planOf(by(telling(from(2, "t"), told(col(-1)), count), -1)), false)
}

// TestOneGroupedPart holds P15.1: a part with groups stands alone.
func TestOneGroupedPart(t *testing.T) {
	whole := telling(from(2, "t"), count)
	grouped := by(telling(from(2, "t"), told(col(1)), count), 1)
	plain := telling(from(2, "t"), told(col(1)))
	both := telling(from(2, "t"), told(col(1)), told(col(0)))
	fast(t, planOf(whole), true)
	fast(t, planOf(grouped), true)
	fast(t, planOf(plain), true)
	for _, p := range []api.Plan{planOf(whole, plain), planOf(plain, whole), planOf(whole, whole), planOf(plain, plain, whole), planOf(plain, whole, plain), planOf(whole, plain, plain, plain)} {
		fast(t, p, false)
	}
	for _, p := range []api.Plan{planOf(grouped, both), planOf(both, grouped), planOf(grouped, grouped), planOf(both, both, both, grouped), planOf(both, grouped, both)} {
		fast(t, p, false)
	}
	fast(t, planOf(once(whole)), false)
	fast(t, planOf(once(grouped)), false)
	fast(t, planOf(once(sums())), false)
	fast(t, planOf(by(plain, 1)), false)
	fast(t, planOf(by(plain, 1), plain), false)
	fast(t, planOf(plain, by(plain, 1)), false)
}

// TestCountRow holds P15.1: one Out is ACount, of whatever E, wherever it stands.
func TestCountRow(t *testing.T) {
	key := told(col(0))
	for _, c := range []struct {
		outs []api.Out
		want bool
	}{
		{[]api.Out{key, count}, true},
		{[]api.Out{count, key}, true},
		{[]api.Out{key, gives(api.ACount, col(1))}, true},
		{[]api.Out{key, gives(api.ACount, add(col(1), val(text("x"))))}, true},
		{[]api.Out{key, gives(api.ACount, api.Calc{Kind: 9, At: -4, Args: []api.Calc{{}}})}, true},
		{[]api.Out{count, key, count, key, count}, true},
		{[]api.Out{key}, false},
		{[]api.Out{key, some(col(0))}, false},
		{[]api.Out{key, some(api.Calc{})}, false},
		{[]api.Out{key, some(col(1)), sum(col(1))}, false},
		{[]api.Out{key, told(col(0))}, false},
	} {
		fast(t, planOf(by(telling(from(2, "t"), c.outs...), 0)), c.want)
	}
	fast(t, planOf(telling(from(2, "t"), some(col(0)))), false)
	fast(t, planOf(telling(from(2, "t"), some(col(1)), sum(col(1)))), false)
	fast(t, planOf(telling(from(2, "t"), some(col(1)), sum(col(1)), count)), true)
	fast(t, planOf(telling(from(2, "t"), some(col(1)), count)), true)
}

// TestGroupRow holds P15.1: each column in Group is told, as it is and without an Agg.
func TestGroupRow(t *testing.T) {
	key := func(at int) api.Out { return told(col(at)) }
	for _, c := range []struct {
		group []int
		outs  []api.Out
		want  bool
	}{
		{[]int{1}, []api.Out{key(1), count}, true},
		{[]int{1}, []api.Out{count, key(1)}, true},
		{[]int{1}, []api.Out{count}, false},
		{[]int{0}, []api.Out{count}, false},
		{[]int{2, 0}, []api.Out{key(0), count, key(2)}, true},
		{[]int{2, 0}, []api.Out{count, key(2), key(0)}, true},
		{[]int{2, 0}, []api.Out{count, key(2)}, false},
		{[]int{2, 0}, []api.Out{key(0), count}, false},
		{[]int{2, 0}, []api.Out{key(0), count, key(0)}, false},
		{[]int{2, 2}, []api.Out{key(2), count}, true},
		{[]int{2, 2, 0, 2}, []api.Out{key(2), count}, false},
		{[]int{0, 1, 2, 3}, []api.Out{key(3), key(1), key(2), key(0), count}, true},
		{[]int{0, 1, 2, 3}, []api.Out{key(3), key(1), key(2), count}, false},
		{[]int{0, 1, 2, 3}, []api.Out{key(2), key(1), key(0), count}, false},
		{[]int{0, 1, 2, 3}, []api.Out{key(3), key(2), key(0), count}, false},
		{[]int{0, 1, 2, 3}, []api.Out{key(3), key(1), key(2), count, gives(api.ACount, col(0))}, false},
		{[]int{1}, []api.Out{gives(api.ACount, col(1))}, false},
		{[]int{1}, []api.Out{some(col(1)), count}, false},
		{[]int{1}, []api.Out{some(col(1)), sum(col(1)), count}, false},
		{[]int{1}, []api.Out{key(1), some(col(1)), sum(col(1)), count}, true},
	} {
		fast(t, planOf(by(telling(from(4, "t"), c.outs...), c.group...)), c.want)
	}
}

// TestGroupColumnAlone holds P15.1: of a column that is told all fields but Kind and At are zero, while its name and
// type may be any.
func TestGroupColumnAlone(t *testing.T) {
	tells := func(o api.Out) api.Plan { return planOf(by(telling(from(2, "t"), o, count), 1)) }
	for _, o := range []api.Out{{E: col(1)}, {E: col(1), Name: "x"}, {E: col(1), Type: api.TText}, {E: col(1), Name: "b", Type: -9}} {
		fast(t, tells(o), true)
	}
	for _, e := range []api.Calc{
		{Kind: api.EColumn, At: 1, Val: num(0)},
		{Kind: api.EColumn, At: 1, Val: api.Value{N: 1}},
		{Kind: api.EColumn, At: 1, Val: api.Value{S: "b"}},
		{Kind: api.EColumn, At: 1, Args: []api.Calc{{}}},
		{Kind: api.EColumn, At: 1, Args: []api.Calc{col(1)}},
	} {
		fast(t, tells(told(e)), false)
		fast(t, planOf(by(telling(from(2, "t"), told(e), told(col(1)), count), 1)), true)
		fast(t, planOf(by(telling(from(2, "t"), count, told(col(1)), told(e)), 1)), true)
	}
}

// TestBarred holds P15.1: no Out is the least, the greatest or a total.
func TestBarred(t *testing.T) {
	for _, agg := range []int{api.AMin, api.AMax, api.ATotal} {
		for _, e := range []api.Calc{col(0), col(1), lit(3), {}} {
			for at := range 5 {
				p := sums()
				p.Outs = slices.Insert(p.Outs, at, gives(agg, e))
				fast(t, planOf(p), false)
			}
			fast(t, planOf(telling(from(2, "t"), gives(agg, e), count)), false)
			fast(t, planOf(telling(from(2, "t"), gives(agg, e), count, some(e))), false)
		}
	}
	for _, o := range []api.Out{told(col(0)), count, some(col(0)), some(lit(1)), sum(col(1)), gives(api.ACount, col(1))} {
		for at := range 5 {
			p := sums()
			p.Outs = slices.Insert(p.Outs, at, o)
			fast(t, planOf(p), true)
		}
	}
}

// counted is a plan without Group that tells sums of those, and counts of these.
func counted(summed, these []api.Calc) api.Plan {
	p := telling(from(3, "t"), count)
	for _, e := range summed {
		p.Outs = append(p.Outs, sum(e))
	}
	for _, e := range these {
		p.Outs = append(p.Outs, some(e))
	}
	return planOf(p)
}

// TestSumsAreCounted holds P15.1: beside each ASum there is an ASome of just its E.
func TestSumsAreCounted(t *testing.T) {
	a, b, c := col(0), col(1), add(col(1), lit(1))
	for _, one := range []struct {
		summed, these []api.Calc
		want          bool
	}{
		{nil, nil, true},
		{nil, []api.Calc{a, b}, true},
		{[]api.Calc{a}, nil, false},
		{[]api.Calc{a}, []api.Calc{a}, true},
		{[]api.Calc{a}, []api.Calc{b}, false},
		{[]api.Calc{a}, []api.Calc{b, c, a}, true},
		{[]api.Calc{a, a, a}, []api.Calc{a}, true},
		{[]api.Calc{a, b}, []api.Calc{b, a}, true},
		{[]api.Calc{a, b}, []api.Calc{a, a}, false},
		{[]api.Calc{a, b}, []api.Calc{b, b}, false},
		{[]api.Calc{a, b, c}, []api.Calc{a, b, c}, true},
		{[]api.Calc{a, b, c}, []api.Calc{c, b, a}, true},
		{[]api.Calc{a, b, c}, []api.Calc{c, b}, false},
		{[]api.Calc{a, b, c}, []api.Calc{c, a}, false},
		{[]api.Calc{c, b, a}, []api.Calc{a, b}, false},
		{[]api.Calc{c}, []api.Calc{add(col(1), lit(1))}, true},
		{[]api.Calc{c}, []api.Calc{add(lit(1), col(1))}, false},
		{[]api.Calc{c}, []api.Calc{add(col(1), lit(2))}, false},
		{[]api.Calc{c}, []api.Calc{add(col(2), lit(1))}, false},
		{[]api.Calc{c}, []api.Calc{calc(api.ESub, col(1), lit(1))}, false},
		{[]api.Calc{c}, []api.Calc{calc(api.EAdd, col(1), lit(1), lit(1))}, false},
		{[]api.Calc{c}, []api.Calc{col(1)}, false},
		{[]api.Calc{neg(c)}, []api.Calc{c}, false},
		{[]api.Calc{neg(c)}, []api.Calc{neg(c), c}, true},
		{[]api.Calc{neg(neg(a))}, []api.Calc{a}, false},
	} {
		fast(t, counted(one.summed, one.these), one.want)
	}
	// What a sum's count may be is Agg by Agg: a count of rows, a sum or the column itself is none.
	fast(t, planOf(telling(from(2, "t"), count, gives(api.ACount, col(0)), sum(col(0)), sum(col(0)))), false)
	fast(t, planOf(by(telling(from(2, "t"), count, told(col(0)), sum(col(0))), 0)), false)
}

// TestSumsByField holds P15.1: a sum and its count are of one E, field by field, also by fields that don't count.
func TestSumsByField(t *testing.T) {
	l := slices.DeleteFunc(different(), func(e api.Calc) bool { return e.Kind == api.EColumn && (e.At < 0 || e.At > 2) })
	if len(l) < 50 {
		t.Fatal(len(l))
	}
	for i, e := range l {
		fast(t, counted([]api.Calc{e}, []api.Calc{e}), true)
		fast(t, counted([]api.Calc{e, lit(7)}, []api.Calc{lit(7), e}), true)
		for k, other := range l {
			fast(t, counted([]api.Calc{e}, []api.Calc{other}), i == k)
			fast(t, counted([]api.Calc{e}, []api.Calc{lit(7), other, lit(8)}), i == k)
			fast(t, counted([]api.Calc{add(e, e)}, []api.Calc{add(e, other)}), i == k)
		}
	}
}
