package bind

import (
	"slices"
	"strconv"

	"belvedere/api"
	"belvedere/value"
)

// The model says what the chapter says, in its order; the first fault ends it by a panic.

type fault api.Errno

func need(ok bool, err api.Errno) {
	if !ok {
		panic(fault(err))
	}
}

// caught is what do tells, or nothing and the first fault.
func caught[T any](do func() T) (told T, err api.Errno) {
	defer func() {
		if f, ok := recover().(fault); ok {
			err = api.Errno(f)
		}
	}()
	return do(), api.OK
}

// field is a column of one of a select's sources.
type field struct {
	as, name string
	kind     int
}

// row is all columns of all sources of a select, side by side.
type row []field

func (r row) with(as string, cols []api.Column) row {
	for _, c := range cols {
		r = append(r, field{as, c.Name, c.Type})
	}
	return r
}

// place is where the column e stands.
func (r row) place(e api.Expr) int {
	var l []int
	for i, f := range r {
		if f.name == e.Name && (e.Table == "" || f.as == e.Table) {
			l = append(l, i)
		}
	}
	need(len(l) < 2, api.ErrMany)
	need(len(l) > 0, api.ErrName)
	return l[0]
}

// kind is an expression's type.
func (r row) kind(e api.Expr) int {
	if e.Kind == api.EColumn {
		return r[r.place(e)].kind
	}
	if e.Kind == api.EValue {
		return e.Val.Kind
	}
	return api.TInt
}

func (r row) calc(e api.Expr) api.Calc {
	need(e.Kind >= api.EColumn && e.Kind <= api.ENeg, api.ErrArg)
	if e.Kind == api.EColumn {
		return at(r.place(e))
	}
	if e.Kind == api.EValue {
		err := value.Check(e.Val)
		need(err == api.OK, err)
		return lit(e.Val)
	}
	args := map[bool]int{true: 1, false: 2}[e.Kind == api.ENeg]
	need(len(e.Args) == args, api.ErrArg)
	c := api.Calc{Kind: e.Kind, Args: make([]api.Calc, args)}
	for i, a := range e.Args {
		c.Args[i] = r.calc(a)
		need(r.kind(a) == api.TInt || r.kind(a) == api.TAny, api.ErrType)
	}
	return c
}

func simple(e api.Expr) bool { return e.Kind == api.EColumn || e.Kind == api.EValue }

func differ(a, b int) bool { return a*b != 0 && a != b }

func (r row) test(c api.Cond) api.Test {
	t := api.Test{Kind: c.Kind}
	need(c.Kind >= api.CNone && c.Kind <= api.CNot, api.ErrArg)
	if c.Kind == api.CCompare || c.Kind == api.CNull || c.Kind == api.CSome {
		need(simple(c.L), api.ErrArg)
		t.L = r.calc(c.L)
	}
	if c.Kind == api.CCompare {
		need(simple(c.R), api.ErrArg)
		t.Op, t.R = c.Op, r.calc(c.R)
		need(slices.Contains([]int{api.OpEq, api.OpNe, api.OpLt, api.OpLe, api.OpGt, api.OpGe}, c.Op), api.ErrArg)
		need(!differ(r.kind(c.L), r.kind(c.R)), api.ErrType)
	}
	if c.Kind == api.CNot {
		need(len(c.Args) == 1, api.ErrArg)
	}
	if c.Kind >= api.CAnd {
		need(len(c.Args) != 0, api.ErrArg)
		for _, a := range c.Args {
			need(a.Kind != api.CNone, api.ErrArg)
			t.Args = append(t.Args, r.test(a))
		}
	}
	return t
}

func (r row) out(item api.Item, number int) api.Out {
	o := api.Out{Agg: item.Agg, Name: item.As, Type: api.TInt}
	if item.Agg != api.ACount {
		o.E = r.calc(item.E)
		need(slices.Contains([]int{api.ANone, api.ASome, api.ASum, api.AMin, api.AMax}, item.Agg), api.ErrArg)
		need(item.Agg != api.ASum || !differ(r.kind(item.E), api.TInt), api.ErrType)
		if item.Agg != api.ASome && item.Agg != api.ASum {
			o.Type = r.kind(item.E)
		}
	}
	if o.Name == "" {
		o.Name = "c" + strconv.Itoa(number)
		if item.Agg == api.ANone && item.E.Kind == api.EColumn {
			o.Name = r[o.E.At].name
		}
	}
	return o
}

// selected is what one select comes to.
func selected(q api.Select, schemas []api.Schema) api.Part {
	need(len(q.From) > 0 && len(q.From) < 4 && len(q.Items) > 0 && len(q.Items) < 9 && len(q.Group) < 5, api.ErrLong)
	p := api.Part{Distinct: q.Distinct}
	var r row
	ahead := map[string]bool{}
	for _, f := range q.From {
		found := false
		for _, s := range schemas {
			if s.Name == f.Name && !found {
				found = true
				need(!ahead[f.As], api.ErrTwice)
				r, ahead[f.As] = r.with(f.As, s.Cols), true
				p.Widths = append(p.Widths, len(s.Cols))
			}
		}
		need(found, api.ErrName)
		p.From = append(p.From, f.Name)
	}
	p.Where = r.test(q.Where)
	for _, e := range q.Group {
		need(e.Kind == api.EColumn, api.ErrArg)
		p.Group = append(p.Group, r.place(e))
	}
	grouped := len(q.Group) > 0
	for i, item := range q.Items {
		p.Outs = append(p.Outs, r.out(item, i+1))
		grouped = grouped || item.Agg != api.ANone
	}
	for _, o := range p.Outs {
		in := o.E.Kind == api.EColumn && slices.Contains(p.Group, o.E.At)
		need(!grouped || o.Agg != api.ANone || in, api.ErrGroup)
	}
	return p
}

type answer struct {
	plan api.Plan
	cols []api.Column
}

func modelQuery(q api.Query, schemas []api.Schema) (answer, api.Errno) {
	return caught(func() answer {
		var a answer
		need(len(q.Parts) > 0 && len(q.Parts) < 5, api.ErrLong)
		for i, s := range q.Parts {
			p := selected(s, schemas)
			a.plan.Parts = append(a.plan.Parts, p)
			first := a.plan.Parts[0].Outs
			need(len(p.Outs) == len(first), api.ErrType)
			for k, o := range p.Outs {
				for _, ahead := range a.plan.Parts[:i] {
					need(!differ(ahead.Outs[k].Type, o.Type), api.ErrType)
				}
			}
		}
		for k, o := range a.plan.Parts[0].Outs {
			c := api.Column{Name: o.Name}
			for _, p := range slices.Backward(a.plan.Parts) {
				if p.Outs[k].Type != api.TAny {
					c.Type = p.Outs[k].Type
				}
			}
			a.cols = append(a.cols, c)
		}
		return a
	})
}

func modelWhere(c api.Cond, s api.Schema) (api.Test, api.Errno) {
	return caught(func() api.Test { return row{}.with(s.Name, s.Cols).test(c) })
}

func modelSets(l []api.Set, s api.Schema) ([]api.Put, api.Errno) {
	return caught(func() []api.Put {
		var puts []api.Put
		need(len(l) > 0 && len(l) < 9, api.ErrLong)
		r := row{}.with(s.Name, s.Cols)
		for i, set := range l {
			own := named(set.Name)
			put := api.Put{At: r.place(own)}
			for _, ahead := range l[:i] {
				need(ahead.Name != set.Name, api.ErrTwice)
			}
			put.E = r.calc(set.E)
			kind := r.kind(set.E)
			need(kind == api.TAny || kind == r.kind(own), api.ErrType)
			puts = append(puts, put)
		}
		return puts
	})
}
