package bind

import (
	"slices"

	"belvedere/api"
	"belvedere/value"
)

// sources are what a select reads, whose columns stand side by side. Each rule by which something is resolved over them
// is a method.
type sources struct{ list []source }

// source is a schema's columns, and how the schema is called.
type source struct {
	as   string
	cols []api.Column
}

// alone is one schema, called by its name.
func alone(s api.Schema) sources {
	return sources{[]source{{s.Name, s.Cols}}}
}

func (s sources) called(as string) bool {
	return slices.ContainsFunc(s.list, func(o source) bool { return o.as == as })
}

func (s sources) widths() []int {
	var l []int
	for _, o := range s.list {
		l = append(l, len(o.cols))
	}
	return l
}

// column finds the one column of that name, and its type, in all sources, or in those called table, if that isn't empty.
func (s sources) column(table, name string) (api.Calc, int, api.Errno) {
	at, kind, found, ahead := 0, 0, 0, 0
	for _, o := range s.list {
		if table == "" || table == o.as {
			for i, c := range o.cols {
				if c.Name == name {
					at, kind = ahead+i, c.Type
					found++
				}
			}
		}
		ahead += len(o.cols)
	}
	switch found {
	case 0:
		return api.Calc{}, 0, api.ErrName
	case 1:
		return api.Calc{Kind: api.EColumn, At: at}, kind, api.OK
	}
	return api.Calc{}, 0, api.ErrMany
}

// expr resolves an expression, and tells its type.
func (s sources) expr(e api.Expr) (api.Calc, int, api.Errno) {
	switch e.Kind {
	case api.EAdd, api.ESub, api.EMul:
		return s.reckoned(e, 2)
	case api.ENeg:
		return s.reckoned(e, 1)
	}
	return s.side(e)
}

// reckoned resolves an expression that has to have n Args, each of which may be a number.
func (s sources) reckoned(e api.Expr, n int) (api.Calc, int, api.Errno) {
	if len(e.Args) != n {
		return api.Calc{}, 0, api.ErrArg
	}
	c := api.Calc{Kind: e.Kind}
	for _, a := range e.Args {
		arg, kind, err := s.expr(a)
		if err != api.OK {
			return api.Calc{}, 0, err
		}
		if !counts(kind) {
			return api.Calc{}, 0, api.ErrType
		}
		c.Args = append(c.Args, arg)
	}
	return c, api.TInt, api.OK
}

// side resolves a column or a value.
func (s sources) side(e api.Expr) (api.Calc, int, api.Errno) {
	switch e.Kind {
	case api.EColumn:
		return s.column(e.Table, e.Name)
	case api.EValue:
		if err := value.Check(e.Val); err != api.OK {
			return api.Calc{}, 0, err
		}
		return api.Calc{Kind: api.EValue, Val: e.Val}, e.Val.Kind, api.OK
	}
	return api.Calc{}, 0, api.ErrArg
}

// cond resolves a condition, which may be none.
func (s sources) cond(c api.Cond) (api.Test, api.Errno) {
	switch c.Kind {
	case api.CNone:
		return api.Test{}, api.OK
	case api.CCompare:
		return s.compared(c)
	case api.CNull, api.CSome:
		l, _, err := s.side(c.L)
		if err != api.OK {
			return api.Test{}, err
		}
		return api.Test{Kind: c.Kind, L: l}, api.OK
	case api.CAnd, api.COr:
		if len(c.Args) > 0 {
			return s.joined(c)
		}
	case api.CNot:
		if len(c.Args) == 1 {
			return s.joined(c)
		}
	}
	return api.Test{}, api.ErrArg
}

func (s sources) compared(c api.Cond) (api.Test, api.Errno) {
	l, left, err := s.side(c.L)
	if err != api.OK {
		return api.Test{}, err
	}
	r, right, err := s.side(c.R)
	switch {
	case err != api.OK:
		return api.Test{}, err
	case !within(c.Op, api.OpEq, api.OpGe):
		return api.Test{}, api.ErrArg
	case apart(left, right):
		return api.Test{}, api.ErrType
	}
	return api.Test{Kind: c.Kind, Op: c.Op, L: l, R: r}, api.OK
}

// joined resolves a condition of conditions, none of which may be none.
func (s sources) joined(c api.Cond) (api.Test, api.Errno) {
	t := api.Test{Kind: c.Kind}
	for _, a := range c.Args {
		if a.Kind == api.CNone {
			return api.Test{}, api.ErrArg
		}
		arg, err := s.cond(a)
		if err != api.OK {
			return api.Test{}, err
		}
		t.Args = append(t.Args, arg)
	}
	return t, api.OK
}

// put resolves a column's new value, behind those that columns have already.
func (s sources) put(set api.Set, ahead []api.Put) (api.Put, api.Errno) {
	c, own, err := s.column("", set.Name)
	if err != api.OK {
		return api.Put{}, err
	}
	if slices.ContainsFunc(ahead, func(p api.Put) bool { return p.At == c.At }) {
		return api.Put{}, api.ErrTwice
	}
	e, kind, err := s.expr(set.E)
	if err != api.OK {
		return api.Put{}, err
	}
	if kind != own && kind != api.TAny {
		return api.Put{}, api.ErrType
	}
	return api.Put{At: c.At, E: e}, api.OK
}

// counts tells whether what is of this type is a number or nothing.
func counts(kind int) bool { return kind == api.TInt || kind == api.TAny }

// apart tells whether these types are two, and neither is that of nothing.
func apart(a, b int) bool { return a != b && a != api.TAny && b != api.TAny }
