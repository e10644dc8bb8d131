package parse

import "belvedere/api"

func (r *reader) expr() api.Expr {
	e := r.term()
	for {
		switch {
		case r.take("+"):
			e = api.Expr{Kind: api.EAdd, Args: []api.Expr{e, r.term()}}
		case r.take("-"):
			e = api.Expr{Kind: api.ESub, Args: []api.Expr{e, r.term()}}
		default:
			return e
		}
	}
}

func (r *reader) term() api.Expr {
	e := r.factor()
	for r.take("*") {
		e = api.Expr{Kind: api.EMul, Args: []api.Expr{e, r.factor()}}
	}
	return e
}

// factor takes an operand first, since a - ahead of a number is that number's.
func (r *reader) factor() api.Expr {
	switch {
	case r.valued():
		return r.operand()
	case r.take("("):
		r.deeper()
		e := r.expr()
		r.depth--
		r.need(")")
		return e
	case r.take("-"):
		r.deeper()
		e := api.Expr{Kind: api.ENeg, Args: []api.Expr{r.factor()}}
		r.depth--
		return e
	}
	return r.operand()
}

func (r *reader) operand() api.Expr {
	if r.valued() {
		return api.Expr{Kind: api.EValue, Val: r.value()}
	}
	return r.column()
}

func (r *reader) column() api.Expr {
	s := r.name()
	if r.take(".") {
		return api.Expr{Kind: api.EColumn, Table: s, Name: r.name()}
	}
	return api.Expr{Kind: api.EColumn, Name: s}
}

// valued tells whether a value begins here.
func (r *reader) valued() bool {
	switch r.word().Kind {
	case api.WInt, api.WText:
		return true
	}
	return r.is("null") || r.is("true") || r.is("false") || r.is("-") && r.words[r.at+1].Kind == api.WInt
}

func (r *reader) value() api.Value {
	switch {
	case r.take("null"):
		return api.Value{}
	case r.take("true"):
		return api.Value{Kind: api.TBool, N: 1}
	case r.take("false"):
		return api.Value{Kind: api.TBool}
	case r.word().Kind == api.WText:
		return r.text()
	}
	return r.number()
}

func (r *reader) text() api.Value {
	w := r.word()
	if len(w.S) > api.MaxText {
		r.fault(api.ErrLong)
		return api.Value{}
	}
	r.at++
	return api.Value{Kind: api.TText, S: w.S}
}

// number reads a number: the one of 2^63 only with a - ahead.
func (r *reader) number() api.Value {
	minus := r.take("-")
	w := r.word()
	if w.Kind != api.WInt || w.N == 1<<63 && !minus {
		r.fault(api.ErrSyntax)
		return api.Value{}
	}
	r.at++
	if minus {
		return api.Value{Kind: api.TInt, N: int(-w.N)}
	}
	return api.Value{Kind: api.TInt, N: int(w.N)}
}
