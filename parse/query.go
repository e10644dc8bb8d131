package parse

import "belvedere/api"

func (r *reader) query() api.Query {
	q := api.Query{Parts: []api.Select{r.selection()}}
	for r.take("union") {
		r.need("all")
		q.Parts = append(q.Parts, r.selection())
	}
	r.within(len(q.Parts), api.MaxParts)
	return q
}

func (r *reader) selection() api.Select {
	r.need("select")
	s := api.Select{Distinct: r.take("distinct")}
	s.Items = list(r, r.item)
	r.need("from")
	s.From = list(r, r.source)
	s.Where = r.where()
	if r.take("group") {
		r.need("by")
		s.Group = list(r, r.column)
	}
	r.within(len(s.Items), api.MaxItems)
	r.within(len(s.From), api.MaxFrom)
	r.within(len(s.Group), api.MaxGroup)
	return s
}

func (r *reader) item() api.Item {
	i := r.told()
	if r.take("as") {
		i.As = r.name()
	}
	return i
}

// told reads what an item tells: an expression, or an aggregate.
func (r *reader) told() api.Item {
	switch {
	case r.take("count"):
		return r.count()
	case r.take("sum"):
		return r.aggregate(api.ASum)
	case r.take("min"):
		return r.aggregate(api.AMin)
	case r.take("max"):
		return r.aggregate(api.AMax)
	}
	return api.Item{E: r.expr()}
}

func (r *reader) count() api.Item {
	r.need("(")
	i := api.Item{Agg: api.ACount}
	if !r.take("*") {
		i = api.Item{Agg: api.ASome, E: r.expr()}
	}
	r.need(")")
	return i
}

func (r *reader) aggregate(kind int) api.Item {
	r.need("(")
	i := api.Item{Agg: kind, E: r.expr()}
	r.need(")")
	return i
}

func (r *reader) source() api.Source {
	s := r.name()
	if r.take("as") {
		return api.Source{Name: s, As: r.name()}
	}
	return api.Source{Name: s, As: s}
}
