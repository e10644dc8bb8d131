package shape

import (
	"reflect"
	"slices"
	"testing"

	"belvedere/api"
)

// spare is l with room behind it, in which something stands.
func spare[T any](more T, l ...T) []T {
	return append(slices.Clone(l), more)[:len(l)]
}

// made is a plan and an expression, all lists with spare room.
func made(grouped bool) (api.Plan, api.Calc) {
	own := func() api.Calc {
		return calc(api.EAdd, spare(lit(9), neg(col(1)), api.Calc{Kind: api.EMul, Args: spare(lit(8), col(0), lit(2))})...)
	}
	part := func(names ...string) api.Part {
		p := from(2, spare("a", names...)...)
		p.Widths = spare(7, p.Widths...)
		p.Where = api.Test{Kind: api.CAnd, Args: spare(api.Test{Kind: 9}, compared(api.OpLt, own(), col(1)))}
		p.Outs = spare(told(lit(6)), told(own()), told(col(1)), told(col(0)))
		if grouped {
			p.Group = spare(1, 1, 0)
			p.Outs = spare(told(lit(6)), told(col(1)), sum(own()), told(col(0)), count, some(own()))
		}
		return p
	}
	if grouped {
		return api.Plan{Parts: spare(part("b"), part("u", "t", "u"))}, own()
	}
	return api.Plan{Parts: spare(part("b"), part("v", "t", "u"), part("u"), part("t", "t"))}, own()
}

// room is all of p's lists, with their spare room.
func room(p api.Plan) []any {
	var all []any
	for _, part := range p.Parts[:cap(p.Parts)] {
		all = append(all, part.From[:cap(part.From)], part.Widths[:cap(part.Widths)], part.Group[:cap(part.Group)], part.Where.Args[:cap(part.Where.Args)])
		for _, o := range part.Outs[:cap(part.Outs)] {
			all = append(all, o, roomOf(o.E))
		}
	}
	return all
}

// roomOf is all of e's Args, and of theirs, with their spare room.
func roomOf(e api.Calc) []any {
	all := []any{e.Args[:cap(e.Args)]}
	for _, a := range e.Args[:cap(e.Args)] {
		all = append(all, roomOf(a)...)
	}
	return all
}

func unchanged(t *testing.T, grouped bool, p api.Plan, e api.Calc) {
	t.Helper()
	wantPlan, wantCalc := made(grouped)
	if !reflect.DeepEqual(p, wantPlan) || !reflect.DeepEqual(e, wantCalc) {
		t.Errorf("%+v, %+v have become %+v, %+v", wantPlan, wantCalc, p, e)
	}
	if !reflect.DeepEqual(room(p), room(wantPlan)) || !reflect.DeepEqual(roomOf(e), roomOf(wantCalc)) {
		t.Errorf("the spare room of %+v, %+v has changed", p, e)
	}
}

// TestNothingIsChanged holds rule 3: what is handed in stays as it was, its spare room too.
func TestNothingIsChanged(t *testing.T) {
	for _, grouped := range []bool{false, true} {
		p, e := made(grouped)
		fast(t, p, true)
		unchanged(t, grouped, p, e)
		if len(Refs(p)) < 2 {
			t.Errorf("%+v", p)
		}
		unchanged(t, grouped, p, e)
		for _, part := range p.Parts {
			for agg := -1; agg < 8; agg++ {
				Place(part, agg, e)
			}
		}
		unchanged(t, grouped, p, e)
		fast(t, planOf(once(p.Parts[0])), false)
		fast(t, planOf(by(p.Parts[0], 5)), false)
		unchanged(t, grouped, p, e)
	}
}

// TestNewMemory holds rule 3: the names stand in a list of their own.
func TestNewMemory(t *testing.T) {
	for _, names := range [][]string{{"t"}, {"t", "u"}, {"u", "t", "t"}} {
		p := planOf(from(2, spare("x", names...)...))
		got := Refs(p)
		full := got[:cap(got)]
		for i := range full {
			full[i] = "gone"
		}
		if !slices.Equal(p.Parts[0].From[:len(names)+1], append(slices.Clone(names), "x")) {
			t.Errorf("the names of %q are %q", names, p.Parts[0].From)
		}
	}
	p, e := made(false)
	a, b := Refs(p), Refs(p)
	clear(a)
	if !slices.Equal(b, []string{"t", "u", "v"}) {
		t.Errorf("two answers share memory: %q", b)
	}
	unchanged(t, false, p, e)
}

// TestAgain holds rule 4: the same call answers the same again, whatever was called between.
func TestAgain(t *testing.T) {
	p, e := made(true)
	q, _ := made(false)
	for range 20 {
		fast(t, p, true)
		fast(t, api.Plan{}, false)
		fast(t, q, true)
		fast(t, planOf(p.Parts[0], q.Parts[0]), false)
		refs(t, p, "t", "u")
		refs(t, q, "t", "u", "v")
		place(t, p.Parts[0], api.ASum, e, 1)
		place(t, p.Parts[0], api.ACount, e, 3)
		place(t, q.Parts[0], api.ASum, e, -1)
		place(t, q.Parts[0], api.ANone, e, 0)
	}
}

// TestDeep holds P1 and P15.1, P15.2 of expressions that are nested as deep as may be, and of very broad ones.
func TestDeep(t *testing.T) {
	const deep = 1<<16 - 8
	tower := func(at int) api.Calc {
		e := col(at)
		for range deep {
			e = calc(api.EAdd, e)
		}
		return e
	}
	broad := func(at int) api.Calc {
		return calc(api.EMul, append(slices.Repeat([]api.Calc{neg(col(1))}, 100000), col(at))...)
	}
	for _, made := range []func(int) api.Calc{tower, broad} {
		fast(t, counted([]api.Calc{made(0)}, []api.Calc{made(1), made(0)}), true)
		fast(t, counted([]api.Calc{made(0)}, []api.Calc{made(1), made(2)}), false)
		p := telling(from(2, "t"), told(made(1)), sum(made(0)), some(made(1)), told(made(0)))
		place(t, p, api.ANone, made(0), 3)
		place(t, p, api.ASum, made(0), 1)
		place(t, p, api.ASome, made(0), -1)
		place(t, p, api.ANone, calc(api.EAdd, made(0)), -1)
	}
	c := compared(api.OpEq, col(0), col(1))
	for range deep {
		c = api.Test{Kind: api.CNot, Args: []api.Test{c}}
	}
	fast(t, planOf(where(sums(), c)), true)
}
