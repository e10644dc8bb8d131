package print

import "belvedere/api"

func (t *text) stmt(s api.Stmt) {
	switch s.Kind {
	case api.STable:
		t.table(s)
	case api.SDropTable:
		t.put("drop table " + s.Name)
	case api.SLog:
		t.put("create log on " + s.Name)
	case api.SDropLog:
		t.put("drop log on " + s.Name)
	case api.SView:
		t.view(s)
	case api.SDropView:
		t.put("drop view " + s.Name)
	case api.SInsert:
		t.put("insert into " + s.Name + " values ")
		list(t, s.Rows, ", ", t.tuple)
	case api.SDelete:
		t.put("delete from " + s.Name)
		t.where(s.Where)
	case api.SUpdate:
		t.update(s)
	case api.SRefresh:
		t.put("refresh " + s.Name + mode(s.Mode))
	case api.SRefreshAll:
		t.put("refresh " + s.Name + mode(s.Mode) + " nested")
	case api.SPurge:
		t.put("purge log on " + s.Name)
	case api.SRewrite:
		t.put("set rewrite " + choice(s.N, "off", "on"))
	case api.SPolicy:
		t.put("set policy " + choice(s.N, "enforced", "tolerated"))
	case api.SShow:
		t.put("show " + s.Name)
	default:
		t.query(s.Query)
	}
}

// table puts a key's words first, where there is no column.
func (t *text) table(s api.Stmt) {
	t.put("create table " + s.Name + " (")
	list(t, s.Cols, ", ", t.col)
	if len(s.Keys) > 0 {
		if len(s.Cols) > 0 {
			t.put(", ")
		}
		t.put("primary key ")
		inside(t, true, s.Keys, t.names)
	}
	t.put(")")
}

func (t *text) names(l []string) { list(t, l, ", ", t.put) }

func (t *text) col(c api.Column) {
	t.put(c.Name + typ(c.Type))
	if c.Must {
		t.put(" not null")
	}
}

func typ(kind int) string {
	switch kind {
	case api.TBool:
		return " bool"
	case api.TText:
		return " text"
	}
	return " int"
}

func (t *text) view(s api.Stmt) {
	t.put("create view " + s.Name + " refresh" + mode(s.Mode) + " as ")
	t.query(s.Query)
}

// mode is empty for one that is none, so that it leaves no blank either.
func mode(m int) string {
	switch m {
	case api.MFast:
		return " fast"
	case api.MComplete:
		return " complete"
	case api.MForce:
		return " force"
	}
	return ""
}

func (t *text) tuple(l []api.Value) { inside(t, true, l, t.values) }

func (t *text) values(l []api.Value) { list(t, l, ", ", t.value) }

func (t *text) update(s api.Stmt) {
	t.put("update " + s.Name + " set ")
	list(t, s.Sets, ", ", t.newValue)
	t.where(s.Where)
}

func (t *text) newValue(s api.Set) {
	t.put(s.Name + " = ")
	t.expr(s.E)
}

func choice(n int, none, one string) string {
	if n == 1 {
		return one
	}
	return none
}
