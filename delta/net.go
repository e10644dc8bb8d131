package delta

import (
	"slices"

	"belvedere/api"
	"belvedere/bag"
	"belvedere/expr"
)

func toldOfAll(p api.Plan, old, ch, now sources) ([]api.Many, api.Errno) {
	var all []api.Many
	worst := api.OK
	for _, part := range p.Parts {
		rows, err := told(part, net(part.From, old, ch, now))
		all, worst = append(all, rows...), graver(worst, err)
	}
	if worst != api.OK {
		return nil, worst
	}
	return bag.Of(all), api.OK
}

// net answers what there is now side by side of those names without what there was, as one bag. Each source's changes,
// with those ahead as they were and those behind as they are, come to just that.
func net(from []string, old, ch, now sources) []api.Many {
	var all []api.Many
	for i, name := range from {
		l := slices.Concat(old.of(from[:i]), [][]api.Many{ch[name]}, now.of(from[i+1:]))
		all = append(all, sideBySide(l)...)
	}
	return bag.Of(all)
}

func (s sources) of(from []string) [][]api.Many {
	var l [][]api.Many
	for _, name := range from {
		l = append(l, s[name])
	}
	return l
}

func sideBySide(l [][]api.Many) []api.Many {
	// Where one has no rows, the others may have any number of them: too many to be put side by side for nothing.
	if slices.ContainsFunc(l, empty) {
		return nil
	}
	rows := []api.Many{{N: 1}}
	for _, next := range l {
		rows = pairs(rows, next)
	}
	return rows
}

func empty(l []api.Many) bool { return len(l) == 0 }

func pairs(a, b []api.Many) []api.Many {
	var l []api.Many
	for _, x := range a {
		for _, y := range b {
			l = append(l, api.Many{Row: slices.Concat(x.Row, y.Row), N: x.N * y.N})
		}
	}
	return l
}

// told answers what p tells of its net rows. It goes on behind an error, since a graver one may come.
func told(p api.Part, net []api.Many) ([]api.Many, api.Errno) {
	var rows []api.Many
	worst := api.OK
	for _, m := range net {
		if expr.Holds(p.Where, m.Row) != api.True {
			continue
		}
		row, err := toldOf(p.Outs, m.Row)
		rows, worst = append(rows, api.Many{Row: row, N: m.N}), graver(worst, err)
	}
	return rows, worst
}

func toldOf(l []api.Out, row []api.Value) ([]api.Value, api.Errno) {
	var values []api.Value
	worst := api.OK
	for _, o := range l {
		v, err := expr.Eval(o.E, row)
		values, worst = append(values, v), graver(worst, err)
	}
	return values, worst
}

// graver answers ErrType, if one of both is it, else the one that was met first.
func graver(met, next api.Errno) api.Errno {
	if met == api.OK || next == api.ErrType {
		return next
	}
	return met
}
