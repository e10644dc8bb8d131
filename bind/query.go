package bind

import (
	"slices"
	"strconv"

	"belvedere/api"
)

// catalog is all schemas that there are.
type catalog struct{ schemas []api.Schema }

// part resolves one select.
func (c catalog) part(q api.Select) (api.Part, api.Errno) {
	if !within(len(q.From), 1, api.MaxFrom) || !within(len(q.Items), 1, api.MaxItems) || len(q.Group) > api.MaxGroup {
		return api.Part{}, api.ErrLong
	}
	s, err := c.sources(q.From)
	if err != api.OK {
		return api.Part{}, err
	}
	where, err := s.cond(q.Where)
	if err != api.OK {
		return api.Part{}, err
	}
	group, err := s.group(q.Group)
	if err != api.OK {
		return api.Part{}, err
	}
	outs, err := s.outs(q.Items)
	if err != api.OK {
		return api.Part{}, err
	}
	if !same(outs, group) {
		return api.Part{}, api.ErrGroup
	}
	return api.Part{Distinct: q.Distinct, From: names(q.From), Widths: s.widths(), Where: where, Group: group, Outs: outs}, api.OK
}

// sources finds the schemas of what a select reads.
func (c catalog) sources(from []api.Source) (sources, api.Errno) {
	var s sources
	for _, f := range from {
		at := slices.IndexFunc(c.schemas, func(o api.Schema) bool { return o.Name == f.Name })
		if at < 0 {
			return sources{}, api.ErrName
		}
		if s.called(f.As) {
			return sources{}, api.ErrTwice
		}
		s.list = append(s.list, source{f.As, c.schemas[at].Cols})
	}
	return s, api.OK
}

func names(from []api.Source) []string {
	var l []string
	for _, f := range from {
		l = append(l, f.Name)
	}
	return l
}

// group finds the places of a group's columns.
func (s sources) group(l []api.Expr) ([]int, api.Errno) {
	var group []int
	for _, e := range l {
		if e.Kind != api.EColumn {
			return nil, api.ErrArg
		}
		c, _, err := s.column(e.Table, e.Name)
		if err != api.OK {
			return nil, err
		}
		group = append(group, c.At)
	}
	return group, api.OK
}

func (s sources) outs(l []api.Item) ([]api.Out, api.Errno) {
	var outs []api.Out
	for i, item := range l {
		o, err := s.out(item, i+1)
		if err != api.OK {
			return nil, err
		}
		outs = append(outs, o)
	}
	return outs, api.OK
}

// out resolves an item, the select's number one, two and so on.
func (s sources) out(item api.Item, number int) (api.Out, api.Errno) {
	o := api.Out{Agg: item.Agg, Name: called(item, number), Type: api.TInt}
	if item.Agg == api.ACount {
		return o, api.OK
	}
	e, kind, err := s.expr(item.E)
	switch {
	case err != api.OK:
		return api.Out{}, err
	case !within(item.Agg, api.ANone, api.AMax):
		return api.Out{}, api.ErrArg
	case item.Agg == api.ASum && !counts(kind):
		return api.Out{}, api.ErrType
	case item.Agg != api.ASome && item.Agg != api.ASum:
		o.Type = kind
	}
	o.E = e
	return o, api.OK
}

// called is an item's name.
func called(item api.Item, number int) string {
	switch {
	case item.As != "":
		return item.As
	case item.Agg == api.ANone && item.E.Kind == api.EColumn:
		return item.E.Name
	}
	return "c" + strconv.Itoa(number)
}

// same tells whether what outs tell without an aggregate is the same in all of a group, if there are groups.
func same(outs []api.Out, group []int) bool {
	plain := func(o api.Out) bool { return o.Agg == api.ANone }
	if len(group) == 0 && !slices.ContainsFunc(outs, func(o api.Out) bool { return !plain(o) }) {
		return true
	}
	return !slices.ContainsFunc(outs, func(o api.Out) bool {
		return plain(o) && (o.E.Kind != api.EColumn || !slices.Contains(group, o.E.At))
	})
}

// columns are a query's columns by its first select, of no type as yet.
func columns(outs []api.Out) []api.Column {
	var cols []api.Column
	for _, o := range outs {
		cols = append(cols, api.Column{Name: o.Name})
	}
	return cols
}

// meet gives each column that has no type as yet the one that outs have for it, if they are of the others' types.
func meet(cols []api.Column, outs []api.Out) api.Errno {
	if len(outs) != len(cols) {
		return api.ErrType
	}
	for i, o := range outs {
		if apart(cols[i].Type, o.Type) {
			return api.ErrType
		}
		if cols[i].Type == api.TAny {
			cols[i].Type = o.Type
		}
	}
	return api.OK
}
