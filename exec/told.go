package exec

import (
	"iter"
	"slices"

	"belvedere/api"
	"belvedere/bag"
	"belvedere/expr"
	"belvedere/plan"
)

// told answers what p tells of the rows that it keeps. It goes on behind an error, since a graver one may come.
func told(p api.Part, kept iter.Seq[api.Many]) ([]api.Many, api.Errno) {
	var rows []api.Many
	worst := api.OK
	for group, times := range groups(p, kept) {
		row, err := toldOf(p.Outs, group)
		rows, worst = append(rows, api.Many{Row: row, N: times}), graver(worst, err)
	}
	if p.Distinct {
		rows = bag.Once(bag.Of(rows))
	}
	return rows, worst
}

// groups tells the rows of which p tells one row together, and how often it tells that.
func groups(p api.Part, kept iter.Seq[api.Many]) iter.Seq2[[]api.Many, int] {
	if !plan.Grouped(p) {
		return eachAlone(kept)
	}
	return func(yield func([]api.Many, int) bool) {
		for _, group := range alike(kept, p.Group) {
			if !yield(group, 1) {
				return
			}
		}
	}
}

func eachAlone(kept iter.Seq[api.Many]) iter.Seq2[[]api.Many, int] {
	return func(yield func([]api.Many, int) bool) {
		for m := range kept {
			if !yield([]api.Many{m}, m.N) {
				return
			}
		}
	}
}

// alike answers the rows by their values at those places, in the order in which they are met; without places they are
// one group, also if there are none.
func alike(kept iter.Seq[api.Many], places []int) [][]api.Many {
	if len(places) == 0 {
		return [][]api.Many{slices.Collect(kept)}
	}
	var found [][]api.Many
	place := map[key]int{}
	for m := range kept {
		k := keyOf(m.Row, places)
		at, met := place[k]
		if !met {
			at = len(found)
			place[k], found = at, append(found, nil)
		}
		found[at] = append(found[at], m)
	}
	return found
}

func toldOf(l []api.Out, group []api.Many) ([]api.Value, api.Errno) {
	var row []api.Value
	worst := api.OK
	for _, o := range l {
		v, err := out(o, group)
		row, worst = append(row, v), graver(worst, err)
	}
	return row, worst
}

func out(o api.Out, group []api.Many) (api.Value, api.Errno) {
	switch o.Agg {
	case api.ANone:
		return expr.Eval(o.E, group[0].Row)
	case api.ACount:
		return api.Value{Kind: api.TInt, N: bag.Count(group)}, api.OK
	}
	values, worst := reckoned(o.E, group)
	v, err := aggregate(o.Agg, values)
	return v, graver(worst, err)
}

// reckoned answers what e comes to over the rows of a group, as a bag of rows of one value.
func reckoned(e api.Calc, group []api.Many) ([]api.Many, api.Errno) {
	var values []api.Many
	worst := api.OK
	for _, m := range group {
		v, err := expr.Eval(e, m.Row)
		values, worst = append(values, api.Many{Row: []api.Value{v}, N: m.N}), graver(worst, err)
	}
	return bag.Of(values), worst
}

// aggregate answers what agg makes of a bag of rows of one value. What that is layer 12 says, and says it here too: it
// is asked of a source that has just these rows.
func aggregate(agg int, values []api.Many) (api.Value, api.Errno) {
	only := api.Out{Agg: agg, E: api.Calc{Kind: api.EColumn}}
	whole := api.Part{From: []string{""}, Widths: []int{1}, Outs: []api.Out{only}}
	rows, err := plan.Rows(api.Plan{Parts: []api.Part{whole}}, []api.Named{{Rows: values}})
	if err != api.OK {
		return api.Value{}, err
	}
	return rows[0].Row[0], api.OK
}
