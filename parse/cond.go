package parse

import "belvedere/api"

// where reads a condition, if one stands here.
func (r *reader) where() api.Cond {
	if r.take("where") {
		return r.cond()
	}
	return api.Cond{}
}

func (r *reader) cond() api.Cond { return r.joined(api.COr, "or", r.both) }

func (r *reader) both() api.Cond { return r.joined(api.CAnd, "and", r.simple) }

// joined reads what stands between words: one alone is told as it is.
func (r *reader) joined(kind int, between string, one func() api.Cond) api.Cond {
	first := one()
	if !r.is(between) {
		return first
	}
	c := api.Cond{Kind: kind, Args: []api.Cond{first}}
	for r.take(between) {
		c.Args = append(c.Args, one())
	}
	return c
}

func (r *reader) simple() api.Cond {
	switch {
	case r.take("not"):
		r.deeper()
		c := api.Cond{Kind: api.CNot, Args: []api.Cond{r.simple()}}
		r.depth--
		return c
	case r.take("("):
		r.deeper()
		c := r.cond()
		r.depth--
		r.need(")")
		return c
	}
	return r.compared()
}

func (r *reader) compared() api.Cond {
	c := api.Cond{L: r.operand()}
	if r.take("is") {
		c.Kind = api.CNull
		if r.take("not") {
			c.Kind = api.CSome
		}
		r.need("null")
		return c
	}
	c.Kind = api.CCompare
	c.Op = r.op()
	c.R = r.operand()
	return c
}

func (r *reader) op() int {
	switch {
	case r.take("="):
		return api.OpEq
	case r.take("<>"):
		return api.OpNe
	case r.take("<"):
		return api.OpLt
	case r.take("<="):
		return api.OpLe
	case r.take(">"):
		return api.OpGt
	case r.take(">="):
		return api.OpGe
	}
	r.fault(api.ErrSyntax)
	return 0
}
