package print

import "belvedere/api"

func (t *text) query(q api.Query) {
	list(t, q.Parts, " union all ", t.selection)
}

func (t *text) selection(s api.Select) {
	t.put("select ")
	if s.Distinct {
		t.put("distinct ")
	}
	list(t, s.Items, ", ", t.item)
	t.put(" from ")
	list(t, s.From, ", ", t.source)
	t.where(s.Where)
	if len(s.Group) > 0 {
		t.put(" group by ")
		list(t, s.Group, ", ", t.expr)
	}
}

func (t *text) item(i api.Item) {
	switch i.Agg {
	case api.ANone:
		t.expr(i.E)
	case api.ACount:
		t.put("count(*)")
	default:
		t.put(aggregate(i.Agg))
		inside(t, true, i.E, t.expr)
	}
	if i.As != "" {
		t.put(" as ")
		t.put(i.As)
	}
}

func aggregate(kind int) string {
	switch kind {
	case api.ASum:
		return "sum"
	case api.AMin:
		return "min"
	case api.AMax:
		return "max"
	}
	return "count"
}

func (t *text) source(s api.Source) {
	t.put(s.Name)
	if s.As != s.Name {
		t.put(" as ")
		t.put(s.As)
	}
}
