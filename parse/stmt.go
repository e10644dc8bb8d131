package parse

import "belvedere/api"

func (r *reader) stmt() api.Stmt {
	switch {
	case r.is("select"):
		return api.Stmt{Kind: api.SQuery, Query: r.query()}
	case r.take("create"):
		return r.create()
	case r.take("drop"):
		return r.drop()
	case r.take("insert"):
		return r.insert()
	case r.take("delete"):
		return r.deletion()
	case r.take("update"):
		return r.update()
	case r.take("refresh"):
		return r.refresh()
	case r.take("purge"):
		r.need("log", "on")
		return api.Stmt{Kind: api.SPurge, Name: r.name()}
	case r.take("set"):
		return r.set()
	case r.take("show"):
		return api.Stmt{Kind: api.SShow, Name: r.name()}
	}
	r.fault(api.ErrSyntax)
	return api.Stmt{}
}

func (r *reader) create() api.Stmt {
	switch {
	case r.take("table"):
		return r.table()
	case r.take("log"):
		r.need("on")
		return api.Stmt{Kind: api.SLog, Name: r.name()}
	}
	r.need("view")
	return r.view()
}

func (r *reader) view() api.Stmt {
	s := api.Stmt{Kind: api.SView, Name: r.name()}
	r.need("refresh")
	s.Mode = r.mode()
	if s.Mode == api.MNone {
		r.fault(api.ErrSyntax)
	}
	r.need("as")
	s.Query = r.query()
	return s
}

// table lets a key's words come where its first column may; that it has no column is told behind the closing bracket.
func (r *reader) table() api.Stmt {
	s := api.Stmt{Kind: api.STable, Name: r.name()}
	r.need("(")
	for {
		if r.take("primary") {
			s.Keys = r.key()
			break
		}
		s.Cols = append(s.Cols, r.col())
		if !r.take(",") {
			break
		}
	}
	r.need(")")
	r.within(max(len(s.Cols), len(s.Keys)), api.MaxCols)
	if len(s.Cols) == 0 {
		r.fault(api.ErrSyntax)
	}
	return s
}

func (r *reader) key() []string {
	r.need("key", "(")
	l := list(r, r.name)
	r.need(")")
	return l
}

func (r *reader) col() api.Column {
	c := api.Column{Name: r.name()}
	switch {
	case r.take("int"):
		c.Type = api.TInt
	case r.take("bool"):
		c.Type = api.TBool
	case r.take("text"):
		c.Type = api.TText
	default:
		r.fault(api.ErrSyntax)
	}
	if r.take("not") {
		r.need("null")
		c.Must = true
	}
	return c
}

func (r *reader) drop() api.Stmt {
	switch {
	case r.take("table"):
		return api.Stmt{Kind: api.SDropTable, Name: r.name()}
	case r.take("log"):
		r.need("on")
		return api.Stmt{Kind: api.SDropLog, Name: r.name()}
	}
	r.need("view")
	return api.Stmt{Kind: api.SDropView, Name: r.name()}
}

func (r *reader) insert() api.Stmt {
	r.need("into")
	s := api.Stmt{Kind: api.SInsert, Name: r.name()}
	r.need("values")
	s.Rows = list(r, r.tuple)
	r.within(len(s.Rows), api.MaxValues)
	return s
}

func (r *reader) tuple() []api.Value {
	r.need("(")
	l := list(r, r.value)
	r.need(")")
	r.within(len(l), api.MaxCols)
	return l
}

func (r *reader) deletion() api.Stmt {
	r.need("from")
	s := api.Stmt{Kind: api.SDelete, Name: r.name()}
	s.Where = r.where()
	return s
}

func (r *reader) update() api.Stmt {
	s := api.Stmt{Kind: api.SUpdate, Name: r.name()}
	r.need("set")
	s.Sets = list(r, r.newValue)
	r.within(len(s.Sets), api.MaxCols)
	s.Where = r.where()
	return s
}

func (r *reader) newValue() api.Set {
	s := api.Set{Name: r.name()}
	r.need("=")
	s.E = r.expr()
	return s
}

func (r *reader) refresh() api.Stmt {
	s := api.Stmt{Kind: api.SRefresh, Name: r.name()}
	s.Mode = r.mode()
	if r.take("nested") {
		s.Kind = api.SRefreshAll
	}
	return s
}

// mode answers MNone, if none stands here.
func (r *reader) mode() int {
	switch {
	case r.take("fast"):
		return api.MFast
	case r.take("complete"):
		return api.MComplete
	case r.take("force"):
		return api.MForce
	}
	return api.MNone
}

func (r *reader) set() api.Stmt {
	if r.take("rewrite") {
		return api.Stmt{Kind: api.SRewrite, N: r.choice("off", "on")}
	}
	r.need("policy")
	return api.Stmt{Kind: api.SPolicy, N: r.choice("enforced", "tolerated")}
}

// choice answers which of two words stands here, 0 or 1.
func (r *reader) choice(none, one string) int {
	if r.take(none) {
		return 0
	}
	r.need(one)
	return 1
}
