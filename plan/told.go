package plan

import (
	"slices"

	"belvedere/api"
	"belvedere/bag"
	"belvedere/expr"
	"belvedere/value"
)

// group is rows of which one row is told, and how often it is.
type group struct {
	rows  []api.Many
	times int
}

// told answers what p tells of the rows that it keeps, a list of its own, which it may put into another order.
func told(p api.Part, kept []api.Many) ([]api.Many, api.Errno) {
	var rows []api.Many
	worst := api.OK
	for _, g := range groups(p, kept) {
		row, err := toldOf(p.Outs, g.rows)
		worst = graver(worst, err)
		rows = append(rows, api.Many{Row: row, N: g.times})
	}
	if p.Distinct {
		rows = bag.Once(bag.Of(rows))
	}
	return rows, worst
}

func groups(p api.Part, kept []api.Many) []group {
	switch {
	case !Grouped(p):
		return alone(kept)
	case len(p.Group) == 0:
		return []group{{kept, 1}}
	}
	return alike(kept, p.Group)
}

// alone answers each row as a group of its own, of which as many are told as the row is there.
func alone(l []api.Many) []group {
	var each []group
	for i, m := range l {
		each = append(each, group{l[i : i+1], m.N})
	}
	return each
}

// alike answers the groups of rows that have the same values at those places.
func alike(l []api.Many, places []int) []group {
	order := func(a, b api.Many) int {
		for _, at := range places {
			if c := value.Cmp(a.Row[at], b.Row[at]); c != 0 {
				return c
			}
		}
		return 0
	}
	slices.SortStableFunc(l, order)
	var found []group
	begin := 0
	for i := range l {
		if i+1 == len(l) || order(l[i], l[i+1]) != 0 {
			found = append(found, group{l[begin : i+1], 1})
			begin = i + 1
		}
	}
	return found
}

// toldOf answers the row that l tells of a group. It goes on behind an error, since a graver one may come.
func toldOf(l []api.Out, rows []api.Many) ([]api.Value, api.Errno) {
	var row []api.Value
	worst := api.OK
	for _, o := range l {
		v, err := out(o, rows)
		row, worst = append(row, v), graver(worst, err)
	}
	return row, worst
}

func out(o api.Out, rows []api.Many) (api.Value, api.Errno) {
	switch o.Agg {
	case api.ANone:
		return expr.Eval(o.E, rows[0].Row)
	case api.ACount:
		return number(bag.Count(rows)), api.OK
	}
	some, err := values(o.E, rows)
	v, next := aggregate(o.Agg, some)
	return v, graver(err, next)
}

// values answers what e comes to over rows, nothing aside, as a bag of rows of one value.
func values(e api.Calc, rows []api.Many) ([]api.Many, api.Errno) {
	var some []api.Many
	worst := api.OK
	for _, m := range rows {
		v, err := expr.Eval(e, m.Row)
		worst = graver(worst, err)
		if v.Kind != api.TAny {
			some = append(some, api.Many{Row: []api.Value{v}, N: m.N})
		}
	}
	return bag.Of(some), worst
}

// aggregate leans on the order of a bag: the least value stands first in it, the greatest one last.
func aggregate(agg int, some []api.Many) (api.Value, api.Errno) {
	switch {
	case agg == api.ASome:
		return number(bag.Count(some)), api.OK
	case agg == api.ATotal:
		return sum(some)
	case len(some) == 0:
		return api.Value{}, api.OK
	case agg == api.ASum:
		return sum(some)
	case agg == api.AMin:
		return some[0].Row[0], api.OK
	}
	return some[len(some)-1].Row[0], api.OK
}

func number(n int) api.Value { return api.Value{Kind: api.TInt, N: n} }
