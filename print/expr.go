package print

import (
	"belvedere/api"
	"belvedere/value"
)

func (t *text) expr(e api.Expr) {
	switch e.Kind {
	case api.EColumn:
		t.column(e)
	case api.EAdd:
		t.sum(e, " + ")
	case api.ESub:
		t.sum(e, " - ")
	case api.EMul:
		t.product(e)
	case api.ENeg:
		t.opposite(argument(e, 0))
	default:
		t.value(e.Val)
	}
}

func (t *text) value(v api.Value) { t.put(value.Print(v)) }

func (t *text) column(e api.Expr) {
	if e.Table != "" {
		t.put(e.Table)
		t.put(".")
	}
	t.put(e.Name)
}

// sum leaves its left argument bare, since sums go together from the left.
func (t *text) sum(e api.Expr, sign string) {
	right := argument(e, 1)
	t.expr(argument(e, 0))
	t.put(sign)
	inside(t, isSum(right), right, t.expr)
}

func (t *text) product(e api.Expr) {
	left, right := argument(e, 0), argument(e, 1)
	inside(t, isSum(left), left, t.expr)
	t.put(" * ")
	inside(t, isSum(right) || right.Kind == api.EMul, right, t.expr)
}

// opposite sets a number in brackets too: a - right ahead of it would be read as the number's own.
func (t *text) opposite(e api.Expr) {
	t.put("-")
	inside(t, e.Kind != api.EColumn, e, t.expr)
}

func isSum(e api.Expr) bool { return e.Kind == api.EAdd || e.Kind == api.ESub }

// argument answers the value nothing, where there's no such argument.
func argument(e api.Expr, i int) api.Expr {
	if i < len(e.Args) {
		return e.Args[i]
	}
	return api.Expr{Kind: api.EValue}
}
