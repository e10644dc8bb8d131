package delta

import (
	"math"
	"slices"
	"testing"

	"belvedere/api"
)

func costs(t *testing.T, p api.Plan, old, ch []api.Named, want int) {
	t.Helper()
	if got := Cost(p, old, ch); got != want {
		t.Errorf("Cost(%+v, %+v, %+v) = %d, want %d", p, old, ch, got, want)
	}
}

// TestCost holds P14.1: those ahead as they were, one's changes, those behind as they are, place by place.
func TestCost(t *testing.T) {
	old := list(sized("t", 3), sized("u", 5), sized("v", 7), sized("none", 0), sized("t", 1000), sized("", 11))
	ch := list(named("t", many(-2, ints(1)), many(4, ints(2))), sized("v", 2), sized("none", 1), sized("v", 500), sized("x", 9))
	// t has 3, 6 and 5; u 5, 0 and 5; v 7, 2 and 9; none 0, 1 and 1.
	for _, c := range []struct {
		p    api.Plan
		want int
	}{
		{planOf(from(1, "t")), 6},
		{planOf(from(1, "u")), 0},
		{planOf(from(1, "v")), 2},
		{planOf(from(1, "none")), 1},
		{planOf(from(1, "")), 0},
		{planOf(from(1, "t", "u")), 30},
		{planOf(from(1, "u", "t")), 30},
		{planOf(from(1, "t", "v")), 6*9 + 3*2},
		{planOf(from(1, "v", "t")), 2*5 + 7*6},
		{planOf(from(1, "t", "t")), 6*5 + 3*6},
		{planOf(from(1, "t", "u", "v")), 6*5*9 + 3*5*2},
		{planOf(from(1, "u", "t", "v")), 5*6*9 + 5*3*2},
		{planOf(from(1, "t", "t", "t")), 6*5*5 + 3*6*5 + 3*3*6},
		{planOf(from(1, "t", "v", "none")), 6*9*1 + 3*2*1 + 3*7*1},
		{planOf(from(1, "none", "t", "v")), 1 * 5 * 9},
		{planOf(from(1, "t", "none", "v")), 6*1*9 + 3*1*9},
		{planOf(from(1, "w")), 0},
		{planOf(from(1, "T", "t")), 0},
		{planOf(from(1, "t"), from(1, "u", "v"), from(1, "none"), from(1, "w"), from(1, "t", "t")), 6 + 10 + 1 + 0 + 48},
		{planOf(from(1, "t"), from(1, "t")), 12},
		{api.Plan{}, 0},
		{planOf(api.Part{}), 0},
		{planOf(api.Part{}, from(1, "v"), api.Part{}), 2},
		{planOf(from(0, "u", "u", "u", "v", "u")), 5 * 5 * 5 * 2 * 5},
		{planOf(telling(from(9, "t"))), 6},
		{planOf(by(once(from(1, "t", "u")), 99)), 30},
	} {
		costs(t, c.p, old, ch, c.want)
	}
	costs(t, planOf(slices.Repeat([]api.Part{from(1, "t", "u")}, 9)...), old, ch, 270)
	costs(t, planOf(from(1, "t")), old, nil, 0)
	costs(t, planOf(from(1, "t")), nil, nil, 0)
	// What wasn't there isn't there now, but it has its changes.
	costs(t, planOf(from(1, "x")), old, ch, 9)
	costs(t, planOf(from(1, "t", "x")), old, ch, 27)
	costs(t, planOf(from(1, "x", "t")), old, ch, 45)
	costs(t, planOf(from(1, "x", "x")), old, ch, 0)
}

// TestCostCounts holds P14.1: how many rows there were, came, went and are, of any lists.
func TestCostCounts(t *testing.T) {
	unread := sized("unread", math.MaxInt)
	for _, c := range []struct {
		old, ch        []api.Many
		was, moves, is int
	}{
		{nil, nil, 0, 0, 0},
		{[]api.Many{many(2, ints(1)), many(3, ints(2))}, []api.Many{many(-2, ints(1)), many(-1, ints(2)), many(6, ints(3))}, 5, 9, 8},
		{[]api.Many{many(2, ints(1))}, []api.Many{many(-2, ints(1))}, 2, 2, 0},
		{[]api.Many{many(2, ints(1))}, []api.Many{many(-5, ints(1)), many(1, ints(2))}, 2, 6, 1},
		{[]api.Many{many(2, ints(1)), many(-2, ints(1))}, []api.Many{many(1, ints(1)), many(-1, ints(1))}, 2, 2, 0},
		{[]api.Many{many(-4, ints(1)), many(0, nil)}, []api.Many{many(5, ints(1)), many(0, ints(2))}, 0, 5, 1},
		{[]api.Many{many(2, ints(3)), many(1, ints(1)), many(4, ints(3))}, []api.Many{many(-1, ints(3)), many(1, ints(0, 1)), many(-2, ints(3))}, 7, 4, 5},
		{[]api.Many{many(1, ints(1))}, []api.Many{many(1, ints(1, 1)), many(1, nil), many(-1, row(held(1)))}, 1, 3, 3},
		{[]api.Many{many(math.MaxInt, ints(1))}, []api.Many{many(math.MinInt, ints(1))}, api.MaxMany, api.MaxMany, 0},
		{[]api.Many{many(math.MaxInt, ints(1))}, []api.Many{many(math.MaxInt, ints(1))}, api.MaxMany, api.MaxMany, api.MaxMany},
		{[]api.Many{many(math.MaxInt, ints(1)), many(1, ints(1))}, []api.Many{many(math.MinInt, ints(1)), many(1, ints(1))}, api.MaxMany, api.MaxMany, 1},
		{[]api.Many{many(math.MinInt, ints(1)), many(math.MinInt, ints(1))}, []api.Many{many(3, ints(2))}, 0, 3, 3},
		{[]api.Many{many(math.MinInt, ints(1)), many(math.MinInt, ints(1))}, slices.Repeat([]api.Many{many(math.MaxInt, ints(1)), many(3, ints(1))}, 2), 0, api.MaxMany, 4},
		{slices.Repeat([]api.Many{many(1<<62, ints(1))}, 8), slices.Repeat([]api.Many{many(-1<<62, ints(1))}, 7), api.MaxMany, api.MaxMany, api.MaxMany},
		{slices.Repeat([]api.Many{many(1<<62, ints(1))}, 8), slices.Repeat([]api.Many{many(-1<<62, ints(1))}, 8), api.MaxMany, api.MaxMany, 0},
		{[]api.Many{many(math.MaxInt, ints(1)), many(math.MaxInt, ints(1))}, []api.Many{many(3, ints(1))}, api.MaxMany, 3, api.MaxMany},
		{[]api.Many{many(api.MaxMany-1, ints(1))}, []api.Many{many(-api.MaxMany+1, ints(1))}, api.MaxMany - 1, api.MaxMany - 1, 0},
		{[]api.Many{many(api.MaxMany-1, ints(1))}, []api.Many{many(1, ints(1))}, api.MaxMany - 1, 1, api.MaxMany},
		{[]api.Many{many(api.MaxMany-2, ints(1))}, []api.Many{many(1, ints(2))}, api.MaxMany - 2, 1, api.MaxMany - 1},
		{[]api.Many{many(api.MaxMany, ints(1))}, []api.Many{many(api.MaxMany, ints(1)), many(-1, ints(2))}, api.MaxMany, api.MaxMany, api.MaxMany},
		{[]api.Many{many(1, ints(1))}, []api.Many{many(-api.MaxMany-1, ints(1))}, 1, api.MaxMany, 0},
		{[]api.Many{many(1, ints(1))}, []api.Many{many(math.MinInt, ints(1)), many(math.MinInt, nil)}, 1, api.MaxMany, 0},
	} {
		one := sized("one", 1)
		old, ch := list(unread, named("t", c.old...), named("none")), list(named("t", c.ch...), one, unread)
		costs(t, planOf(from(1, "t")), old, ch, c.moves)
		// One's changes are one row: beside it there is just what was ahead of it, or is behind it.
		costs(t, planOf(from(1, "t", "none")), list(old[1], old[2]), list(named("none", one.Rows...), named("t", c.ch...)), min(c.was+c.moves, api.MaxMany))
		costs(t, planOf(from(1, "none", "t")), list(old[1], old[2]), list(named("none", one.Rows...), named("t", c.ch...)), c.is)
	}
}

// TestCostEnds holds P14.1: MaxMany, where the cost is more, and nothing beside a source without rows.
func TestCostEnds(t *testing.T) {
	old := list(sized("most", api.MaxMany), sized("more", math.MaxInt), sized("half", api.MaxMany/2), sized("root", 1<<20), sized("over", 1<<20+1), sized("two", 2), sized("one", 1), sized("none", 0), sized("gone", api.MaxMany), sized("word", 1<<32), sized("sign", 1<<23))
	ch := list(sized("two", 1), sized("one", -1), named("new", many(5, ints(1))), sized("gone", -api.MaxMany), sized("root", -1))
	// two has 2, 1 and 3; one 1, 1 and 0; gone MaxMany, MaxMany and 0; root 2^20, 1 and 2^20 - 1.
	for _, c := range []struct {
		p    api.Plan
		want int
	}{
		{planOf(from(1, "most", "more", "half")), 0},
		{planOf(from(1, "most", "two")), api.MaxMany},
		{planOf(from(1, "more", "two")), api.MaxMany},
		{planOf(from(1, "half", "two")), api.MaxMany / 2},
		{planOf(from(1, "half", "two", "one")), api.MaxMany},
		{planOf(from(1, "half", "one", "two")), api.MaxMany},
		{planOf(from(1, "one", "half")), api.MaxMany / 2},
		{planOf(from(1, "most", "more", "two", "none")), 0},
		{planOf(from(1, "none", "more", "most", "two")), 0},
		{planOf(from(1, "two", "none", "more", "more")), 0},
		{planOf(from(1, "gone")), api.MaxMany},
		{planOf(from(1, "gone", "none")), 0},
		{planOf(from(1, "gone", "gone")), api.MaxMany},
		{planOf(from(1, "two", "gone")), api.MaxMany},
		{planOf(from(1, "gone", "two", "none")), 0},
		{planOf(from(1, "one", "gone")), api.MaxMany},
		{planOf(from(1, "gone", "one")), api.MaxMany},
		{planOf(from(1, "most", "one", "one")), api.MaxMany},
		{planOf(from(1, "root", "over")), 1<<20 + 1},
		{planOf(from(1, "root", "root")), 1<<21 - 1},
		{planOf(from(1, "over", "over", "one")), api.MaxMany},
		{planOf(from(1, "root", "over", "one")), api.MaxMany},
		{planOf(from(1, "word", "word", "two")), api.MaxMany},
		{planOf(from(1, "two", "word", "word")), api.MaxMany},
		{planOf(from(1, "sign", "most", "two")), api.MaxMany},
		{planOf(from(1, "half", "two"), from(1, "two", "half")), api.MaxMany},
		{planOf(from(1, "half", "two"), from(1, "two")), api.MaxMany/2 + 1},
		{planOf(from(1, "gone"), from(1, "one"), from(1, "gone")), api.MaxMany},
		{planOf(from(1, "gone", "none"), from(1, "one"), from(1, "more", "most")), 1},
	} {
		costs(t, c.p, old, ch, c.want)
	}
	under := list(sized("t", 1<<20-1), sized("u", 0))
	costs(t, planOf(from(1, "t", "u")), under, list(sized("u", 1<<20+1)), api.MaxMany-1)
	costs(t, planOf(from(1, "t", "u"), from(1, "u")), under, list(sized("u", 1<<20+1)), api.MaxMany)
	costs(t, planOf(slices.Repeat([]api.Part{from(1, "half", "two")}, 4096)...), old, ch, api.MaxMany)
	twos := slices.Repeat([]string{"two"}, 24)
	want := 0
	for i := range twos {
		n := 1
		for j := range twos {
			if j != i {
				n *= 2 + max(0, min(1, j-i))
			}
		}
		want += n
	}
	costs(t, planOf(from(1, twos...)), old, ch, want)
	costs(t, planOf(from(1, slices.Repeat([]string{"two"}, 50000)...)), old, ch, api.MaxMany)
	costs(t, planOf(from(1, append(slices.Repeat([]string{"two", "more"}, 50000), "none")...)), old, ch, 0)
}

// TestCostOfManyNames holds P1 and P14.1 of very many names, rows and parts.
func TestCostOfManyNames(t *testing.T) {
	var old, ch []api.Named
	var parts []api.Part
	for i := range 50000 {
		name := string(rune('0'+i%10)) + string(rune(1000+i))
		old, ch = append(old, sized(name, 1)), append(ch, sized(name, 1))
		parts = append(parts, from(1, name, name))
	}
	costs(t, planOf(parts...), old, ch, 50000*3)
	var rows, turned []api.Many
	for i := range 200000 {
		rows, turned = append(rows, many(1, ints(i))), append(turned, many(-1, ints(199999-i)))
	}
	costs(t, planOf(from(1, "t"), from(1, "u", "t"), from(1, "t", "u")), list(named("t", rows...), sized("u", 1)), list(named("t", turned...), sized("u", 2)), 200000+200000+3*200000+2*200000)
}
