package print

import "belvedere/api"

// where puts a condition that may be none.
func (t *text) where(c api.Cond) {
	if c.Kind == api.CNone {
		return
	}
	t.put(" where ")
	t.cond(c)
}

func (t *text) cond(c api.Cond) {
	switch c.Kind {
	case api.CNull:
		t.expr(c.L)
		t.put(" is null")
	case api.CSome:
		t.expr(c.L)
		t.put(" is not null")
	case api.CAnd:
		list(t, c.Args, " and ", t.inAnd)
	case api.COr:
		list(t, c.Args, " or ", t.inOr)
	case api.CNot:
		t.not(c)
	default:
		t.compared(c)
	}
}

func (t *text) inAnd(c api.Cond) {
	inside(t, c.Kind == api.COr || c.Kind == api.CAnd, c, t.cond)
}

// inOr leaves what and joins bare, since and holds closer than or.
func (t *text) inOr(c api.Cond) {
	inside(t, c.Kind == api.COr, c, t.cond)
}

func (t *text) not(c api.Cond) {
	one := api.Cond{Kind: api.CCompare}
	if len(c.Args) > 0 {
		one = c.Args[0]
	}
	t.put("not ")
	inside(t, one.Kind == api.CAnd || one.Kind == api.COr, one, t.cond)
}

func (t *text) compared(c api.Cond) {
	t.expr(c.L)
	t.put(sign(c.Op))
	t.expr(c.R)
}

func sign(op int) string {
	signs := [...]string{api.OpEq: " = ", api.OpNe: " <> ", api.OpLt: " < ", api.OpLe: " <= ", api.OpGt: " > ", api.OpGe: " >= "}
	if op < api.OpEq || op > api.OpGe {
		op = api.OpEq
	}
	return signs[op]
}
