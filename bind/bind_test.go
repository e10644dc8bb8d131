package bind

import (
	"reflect"
	"slices"
	"testing"

	"belvedere/api"
	"belvedere/parse"
)

var nothing = api.Value{}

func num(n int) api.Value     { return api.Value{Kind: api.TInt, N: n} }
func truth(n int) api.Value   { return api.Value{Kind: api.TBool, N: n} }
func text(s string) api.Value { return api.Value{Kind: api.TText, S: s} }

// of, named, val and reckoned are expressions as they are written.
func of(table, name string) api.Expr { return api.Expr{Kind: api.EColumn, Table: table, Name: name} }
func named(name string) api.Expr     { return of("", name) }
func val(v api.Value) api.Expr       { return api.Expr{Kind: api.EValue, Val: v} }
func reckoned(kind int, args ...api.Expr) api.Expr {
	return api.Expr{Kind: kind, Args: args}
}

// at, lit and calc are expressions over a row.
func at(place int) api.Calc    { return api.Calc{Kind: api.EColumn, At: place} }
func lit(v api.Value) api.Calc { return api.Calc{Kind: api.EValue, Val: v} }
func calc(kind int, args ...api.Calc) api.Calc {
	return api.Calc{Kind: kind, Args: args}
}

// compared, isNull and cond are conditions as they are written.
func compared(op int, l, r api.Expr) api.Cond {
	return api.Cond{Kind: api.CCompare, Op: op, L: l, R: r}
}
func isNull(e api.Expr) api.Cond                    { return api.Cond{Kind: api.CNull, L: e} }
func cond(kind int, args ...api.Cond) api.Cond      { return api.Cond{Kind: kind, Args: args} }
func out(name string, kind int, e api.Calc) api.Out { return api.Out{E: e, Name: name, Type: kind} }
func gives(agg int, name string, kind int, e api.Calc) api.Out {
	return api.Out{Agg: agg, E: e, Name: name, Type: kind}
}

func col(name string, kind int) api.Column { return api.Column{Name: name, Type: kind} }

func schema(name string, cols ...api.Column) api.Schema { return api.Schema{Name: name, Cols: cols} }

// schemas are those of the chapter's examples; w, of eight columns; and some that may not be: d has a column twice, o has
// one of each type that there is and of some that there aren't, e has none, and there are two of the name t.
func schemas() []api.Schema {
	w := schema("w")
	for _, c := range "abcdefgh" {
		w.Cols = append(w.Cols, col("w"+string(c), api.TInt))
	}
	return []api.Schema{
		schema("t", col("a", api.TInt), col("b", api.TText)),
		schema("u", col("a", api.TInt), col("c", api.TBool)),
		w,
		schema("d", col("p", api.TInt), col("q", api.TBool), col("p", api.TText)),
		schema("t", col("z", api.TBool)),
		schema("o", col("none", api.TAny), col("number", api.TInt), col("truth", api.TBool), col("words", api.TText), col("four", 4), col("below", -1)),
		schema("e"),
	}
}

// read is the query that s says.
func read(t *testing.T, s string) api.Query {
	t.Helper()
	stmt, err := parse.Parse(s, 20)
	if err != api.OK || stmt.Kind != api.SQuery {
		t.Fatalf("%s: error %d", s, err)
	}
	return stmt.Query
}

// one is the select that s says.
func one(t *testing.T, s string) api.Select {
	t.Helper()
	return read(t, s).Parts[0]
}

func queryOf(l ...api.Select) api.Query { return api.Query{Parts: l} }

func planOf(l ...api.Part) api.Plan { return api.Plan{Parts: l} }

// bound holds what Query tells of q.
func bound(t *testing.T, q api.Query, want api.Plan, cols ...api.Column) {
	t.Helper()
	p, c, err := Query(q, schemas())
	if err != api.OK || !reflect.DeepEqual(p, want) || !slices.Equal(c, cols) {
		t.Errorf("%+v\nis   %+v, %+v, error %d\nwant %+v, %+v", q, p, c, err, want, cols)
	}
}

// errs holds Query of q to an error, beside which there is nothing, or to none.
func errs(t *testing.T, q api.Query, want api.Errno) {
	t.Helper()
	p, c, err := Query(q, schemas())
	if err != want || (len(p.Parts) == 0) != (want != api.OK) || (len(c) == 0) != (want != api.OK) {
		t.Errorf("%+v: %+v, %+v, error %d, want %d", q, p, c, err, want)
	}
}

// says holds what Query tells of a text.
func says(t *testing.T, s string, want api.Errno) {
	t.Helper()
	errs(t, read(t, s), want)
}

// TestExample holds the chapter's examples.
func TestExample(t *testing.T) {
	says(t, "select a from t, u", api.ErrMany)
	says(t, "select b + 1 from t", api.ErrType)
	bound(t, read(t, "select t.a, count(*) as n from t, u where t.a = u.a and c = true group by t.a"), planOf(api.Part{
		From: []string{"t", "u"}, Widths: []int{2, 2}, Group: []int{0},
		Where: api.Test{Kind: api.CAnd, Args: []api.Test{
			{Kind: api.CCompare, Op: api.OpEq, L: at(0), R: at(2)},
			{Kind: api.CCompare, Op: api.OpEq, L: at(3), R: lit(truth(1))},
		}},
		Outs: []api.Out{out("a", api.TInt, at(0)), gives(api.ACount, "n", api.TInt, api.Calc{})},
	}), col("a", api.TInt), col("n", api.TInt))
}

// TestPlan holds P18.1: all that a plan says of its selects.
func TestPlan(t *testing.T) {
	a := api.Part{From: []string{"t"}, Widths: []int{2}, Outs: []api.Out{out("a", api.TInt, at(0))}}
	b := api.Part{Distinct: true, From: []string{"t"}, Widths: []int{2}, Outs: []api.Out{out("b", api.TText, at(1))}}
	bound(t, read(t, "select a from t"), planOf(a), col("a", api.TInt))
	bound(t, read(t, "select distinct b from t"), planOf(b), col("b", api.TText))
	bound(t, read(t, "select y.a, x.a, c, wc from w as v, t as x, u as y where x.b is not null"), planOf(api.Part{
		From: []string{"w", "t", "u"}, Widths: []int{8, 2, 2}, Where: api.Test{Kind: api.CSome, L: at(9)},
		Outs: []api.Out{out("a", api.TInt, at(10)), out("a", api.TInt, at(8)), out("c", api.TBool, at(11)), out("wc", api.TInt, at(2))},
	}), col("a", api.TInt), col("a", api.TInt), col("c", api.TBool), col("wc", api.TInt))
	grouped := api.Part{
		From: []string{"t", "t", "t"}, Widths: []int{2, 2, 2}, Group: []int{5, 0, 3, 0},
		Where: api.Test{Kind: api.CNot, Args: []api.Test{{Kind: api.CCompare, Op: api.OpLt, L: at(0), R: at(2)}}},
		Outs:  []api.Out{gives(api.ASome, "c1", api.TInt, at(3)), gives(api.AMax, "most", api.TText, at(5)), out("b", api.TText, at(3))},
	}
	other := api.Part{Distinct: true, From: []string{"u"}, Widths: []int{2}, Outs: []api.Out{out("a", api.TInt, at(0)), out("x", api.TAny, lit(nothing)), out("c3", api.TText, lit(text("x")))}}
	bound(t, read(t, "select count(y.b), max(t.b) as most, y.b from t as x, t as y, t where not x.a < y.a group by t.b, x.a, y.b, x.a union all select distinct a, null as x, 'x' from u"),
		planOf(grouped, other), col("c1", api.TInt), col("most", api.TText), col("b", api.TText))
	bound(t, read(t, "select a from t union all select a from t"), planOf(a, a), col("a", api.TInt))
}

// TestSelects holds P18.1: a query has from one to MaxParts selects, or else nothing is looked at.
func TestSelects(t *testing.T) {
	a := one(t, "select a from t")
	errs(t, api.Query{}, api.ErrLong)
	errs(t, api.Query{Parts: []api.Select{}}, api.ErrLong)
	for n := 1; n <= api.MaxParts; n++ {
		errs(t, queryOf(slices.Repeat([]api.Select{a}, n)...), api.OK)
	}
	errs(t, queryOf(slices.Repeat([]api.Select{a}, api.MaxParts+1)...), api.ErrLong)
	errs(t, queryOf(slices.Repeat([]api.Select{one(t, "select a from z")}, api.MaxParts+1)...), api.ErrLong)
	errs(t, queryOf(slices.Repeat([]api.Select{one(t, "select a from z")}, api.MaxParts)...), api.ErrName)
}

// TestSizes holds P18.1: how many sources, items and columns of a group a select has, which is looked at first.
func TestSizes(t *testing.T) {
	for _, z := range []string{"t", "z"} {
		beside := func(err api.Errno) api.Errno {
			if z == "z" && err == api.OK {
				return api.ErrName
			}
			return err
		}
		for n, want := range []api.Errno{api.ErrLong, api.OK, api.OK, api.OK, api.ErrLong} {
			s := api.Select{Items: []api.Item{{E: val(num(1))}}}
			for i := range n {
				s.From = append(s.From, api.Source{Name: z, As: string(rune('p' + i))})
			}
			errs(t, queryOf(s), beside(want))
		}
		for n := range 11 {
			s := api.Select{From: []api.Source{{Name: z, As: "t"}}, Items: slices.Repeat([]api.Item{{E: named("a")}}, n)}
			want := api.OK
			if n == 0 || n > 8 {
				want = api.ErrLong
			}
			errs(t, queryOf(s), beside(want))
		}
		for n := range 7 {
			s := api.Select{From: []api.Source{{Name: z, As: "t"}}, Items: []api.Item{{E: named("a")}}, Group: slices.Repeat([]api.Expr{named("a")}, n)}
			want := api.OK
			if n > 4 {
				want = api.ErrLong
			}
			errs(t, queryOf(s), beside(want))
		}
	}
	good := one(t, "select a from t")
	for _, bad := range []api.Select{{}, {From: good.From}, {Items: good.Items}, {From: good.From, Items: good.Items, Group: make([]api.Expr, 5)}} {
		errs(t, queryOf(bad), api.ErrLong)
		errs(t, queryOf(good, bad), api.ErrLong)
		errs(t, queryOf(good, bad, one(t, "select a from z")), api.ErrLong)
		errs(t, queryOf(one(t, "select a from z"), bad), api.ErrName)
	}
}

// TestSources holds P18.1: schemas are found by their names, of several the first one, and called by other ones.
func TestSources(t *testing.T) {
	says(t, "select a from t", api.OK)
	says(t, "select z from t", api.ErrName)
	says(t, "select 1 from z", api.ErrName)
	says(t, "select 1 from a", api.ErrName)
	says(t, "select 1 from t, u, z", api.ErrName)
	says(t, "select 1 from t, t", api.ErrTwice)
	says(t, "select 1 from t, u, t", api.ErrTwice)
	says(t, "select 1 from t, u, u", api.ErrTwice)
	says(t, "select 1 from t, t as u, u", api.ErrTwice)
	says(t, "select 1 from t as x, u as x", api.ErrTwice)
	says(t, "select 1 from t, t as u", api.OK)
	says(t, "select 1 from t as u, u as t", api.OK)
	says(t, "select 1 from t as x, t as y, t", api.OK)
	says(t, "select 1 from z, t, t", api.ErrName)
	says(t, "select 1 from t, t, z", api.ErrTwice)
	says(t, "select 1 from t, z as t", api.ErrName)
	says(t, "select 1 from e", api.OK)
	bound(t, read(t, "select c, b from t as u, e, u as t where u.a = t.a"), planOf(api.Part{
		From: []string{"t", "e", "u"}, Widths: []int{2, 0, 2}, Where: api.Test{Kind: api.CCompare, Op: api.OpEq, L: at(0), R: at(2)},
		Outs: []api.Out{out("c", api.TBool, at(3)), out("b", api.TText, at(1))},
	}), col("c", api.TBool), col("b", api.TText))
	items := []api.Item{{E: val(num(1))}}
	errs(t, queryOf(api.Select{Items: items, From: []api.Source{{Name: "t"}}}), api.OK)
	errs(t, queryOf(api.Select{Items: items, From: []api.Source{{Name: "t"}, {Name: "u"}}}), api.ErrTwice)
	errs(t, queryOf(api.Select{Items: items, From: []api.Source{{As: "t"}}}), api.ErrName)
	p, cols, err := Query(queryOf(one(t, "select a from t")), nil)
	if err != api.ErrName || len(p.Parts) > 0 || len(cols) > 0 {
		t.Errorf("without schemas: %+v, %+v, error %d", p, cols, err)
	}
}

// TestFirstFault holds P18.1: of two faults of a select that one is told which the chapter names first, and of two
// selects' faults the first select's.
func TestFirstFault(t *testing.T) {
	faults := []struct {
		err  api.Errno
		make func(s *api.Select)
	}{
		{api.ErrLong, func(s *api.Select) { s.Group = slices.Repeat([]api.Expr{of("t", "a")}, 5) }},
		{api.ErrName, func(s *api.Select) { s.From[0].Name = "z" }},
		{api.ErrTwice, func(s *api.Select) { s.From = append(s.From, api.Source{Name: "w", As: "t"}) }},
		{api.ErrType, func(s *api.Select) { s.Where = compared(api.OpEq, named("b"), named("c")) }},
		{api.ErrMany, func(s *api.Select) { s.Group[1] = named("a") }},
		{api.ErrArg, func(s *api.Select) { s.Items[1].Agg = 6 }},
		{api.ErrGroup, func(s *api.Select) { s.Items[0].E = of("u", "a") }},
	}
	base := func() api.Select {
		return one(t, "select t.a, sum(u.a), t.b from t, u where t.a = u.a group by t.a, t.b")
	}
	few := one(t, "select t.a, sum(u.a) from t, u where t.a = u.a group by t.a, t.b")
	errs(t, queryOf(base()), api.OK)
	for i, f := range faults {
		alone := base()
		f.make(&alone)
		errs(t, queryOf(alone), f.err)
		errs(t, queryOf(base(), alone), f.err)
		errs(t, queryOf(few, alone), f.err)
		errs(t, queryOf(base(), few, alone), api.ErrType)
		for j, g := range faults {
			if i < j {
				both := base()
				g.make(&both)
				f.make(&both)
				errs(t, queryOf(both), f.err)
			}
			other := base()
			g.make(&other)
			errs(t, queryOf(alone, other), f.err)
			errs(t, queryOf(base(), base(), alone, other), f.err)
		}
	}
}

// TestGroupColumns holds P18.1: what is grouped by are columns, each a fault for itself.
func TestGroupColumns(t *testing.T) {
	by := func(l ...api.Expr) api.Query {
		s := one(t, "select count(*) from t, u as v")
		s.Group = l
		return queryOf(s)
	}
	column := func(places ...int) api.Plan {
		return planOf(api.Part{From: []string{"t", "u"}, Widths: []int{2, 2}, Group: places, Outs: []api.Out{gives(api.ACount, "c1", api.TInt, api.Calc{})}})
	}
	bound(t, by(named("b")), column(1), col("c1", api.TInt))
	bound(t, by(of("v", "a"), named("b"), of("v", "c"), of("t", "a")), column(2, 1, 3, 0), col("c1", api.TInt))
	bound(t, by(named("c"), of("v", "c"), named("c")), column(3, 3, 3), col("c1", api.TInt))
	noise := named("b")
	noise.Val, noise.Args = text(string(make([]byte, 70))), []api.Expr{{Kind: 9}}
	bound(t, by(noise), column(1), col("c1", api.TInt))
	errs(t, by(named("a")), api.ErrMany)
	errs(t, by(named("z")), api.ErrName)
	errs(t, by(of("u", "c")), api.ErrName)
	for _, e := range []api.Expr{{}, val(num(1)), val(nothing), val(api.Value{Kind: 9}), reckoned(api.ENeg, of("t", "a")), reckoned(api.EAdd, of("t", "a"), named("z")), {Kind: 7, Name: "b"}, {Kind: -1, Name: "b"}} {
		errs(t, by(e), api.ErrArg)
		errs(t, by(e, named("z")), api.ErrArg)
		errs(t, by(named("z"), e), api.ErrName)
		errs(t, by(named("b"), named("a"), e), api.ErrMany)
		errs(t, by(named("b"), e, named("a")), api.ErrArg)
	}
}

// TestSameInGroup holds P18.1: beside a group or an aggregate each item without one is a column of the group.
func TestSameInGroup(t *testing.T) {
	for s, want := range map[string]api.Errno{
		"select a, b from t":                                            api.OK,
		"select a, b from t group by a":                                 api.ErrGroup,
		"select a, b from t group by b":                                 api.ErrGroup,
		"select a, b from t group by b, a":                              api.OK,
		"select a from t group by b":                                    api.ErrGroup,
		"select b from t group by t.b":                                  api.OK,
		"select t.b from t group by b":                                  api.OK,
		"select a, count(*) from t":                                     api.ErrGroup,
		"select count(*), a from t":                                     api.ErrGroup,
		"select count(a), a from t":                                     api.ErrGroup,
		"select max(a), a from t":                                       api.ErrGroup,
		"select min(a), a from t":                                       api.ErrGroup,
		"select sum(a), a from t":                                       api.ErrGroup,
		"select count(*) from t":                                        api.OK,
		"select count(a), count(*), sum(a), min(b), max(b) from t":      api.OK,
		"select count(*) from t group by a":                             api.OK,
		"select sum(a), max(b) from t group by a":                       api.OK,
		"select count(*), 1 from t":                                     api.ErrGroup,
		"select null, count(*) from t group by a":                       api.ErrGroup,
		"select 1 from t group by a":                                    api.ErrGroup,
		"select - a from t group by a":                                  api.ErrGroup,
		"select a + a from t group by a":                                api.ErrGroup,
		"select a, a, count(*), a from t group by a":                    api.OK,
		"select x.a from t as x, t as y group by y.a":                   api.ErrGroup,
		"select x.a from t as x, t as y group by y.a, x.a":              api.OK,
		"select x.a, x.b, count(*), y.a from t as x, t as y group by a": api.ErrMany,
	} {
		says(t, s, want)
	}
	says(t, "select a, count(*) from t group by a union all select a, a from t", api.OK)
	says(t, "select a, a from t union all select a, count(*) from t", api.ErrGroup)
}

// TestMeet holds P18.1: selects have as many items, of the same types, and columns have these types, and the first one's names.
func TestMeet(t *testing.T) {
	for s, want := range map[string]api.Errno{
		"select a from t union all select a from u":                                                     api.OK,
		"select a from t union all select a, c from u":                                                  api.ErrType,
		"select a, b from t union all select a from u":                                                  api.ErrType,
		"select a from t union all select c from u":                                                     api.ErrType,
		"select a, b from t union all select a, c from u":                                               api.ErrType,
		"select a, b from t union all select c, b from u, t":                                            api.ErrType,
		"select b, a from t union all select a, b from t":                                               api.ErrType,
		"select null from t union all select c from u union all select a from t":                        api.ErrType,
		"select a from t union all select null from u union all select c from u":                        api.ErrType,
		"select null from t union all select null from t union all select c from u":                     api.OK,
		"select a from t union all select a from t union all select a from t union all select b from t": api.ErrType,
		"select a from t union all select sum(a) from t":                                                api.OK,
		"select b from t union all select count(b) from t":                                              api.ErrType,
		"select b from t union all select max(b) from t":                                                api.OK,
		"select four from o union all select four from o":                                               api.OK,
		"select four from o union all select below from o":                                              api.ErrType,
		"select four from o union all select null from o":                                               api.OK,
	} {
		says(t, s, want)
	}
	for _, c := range []struct {
		s    string
		cols []api.Column
	}{
		{"select a as x, null, b from t union all select null as y, c as z, null from u", []api.Column{col("x", api.TInt), col("c2", api.TBool), col("b", api.TText)}},
		{"select null, null from t union all select null as a, null from t", []api.Column{col("c1", api.TAny), col("c2", api.TAny)}},
		{"select null from t union all select null as z from t union all select b from t", []api.Column{col("c1", api.TText)}},
		{"select null as k, a from t union all select b, null as z from t union all select null, null from t union all select b, 5 from t", []api.Column{col("k", api.TText), col("a", api.TInt)}},
		{"select none, four, below from o union all select truth, null, null from o", []api.Column{col("none", api.TBool), col("four", 4), col("below", -1)}},
	} {
		_, cols, err := Query(read(t, c.s), schemas())
		if err != api.OK || !slices.Equal(cols, c.cols) {
			t.Errorf("%s: %+v, error %d", c.s, cols, err)
		}
	}
}

// TestTypesStay holds P18.1: each Out keeps its own item's name and type, whatever the other selects' are.
func TestTypesStay(t *testing.T) {
	p, _, err := Query(read(t, "select null from t union all select a as x from t union all select null as y from t"), schemas())
	want := []api.Out{out("c1", api.TAny, lit(nothing)), out("x", api.TInt, at(0)), out("y", api.TAny, lit(nothing))}
	if err != api.OK || len(p.Parts) != len(want) {
		t.Fatalf("%+v, error %d", p, err)
	}
	for i, part := range p.Parts {
		if !reflect.DeepEqual(part.Outs, want[i:i+1]) {
			t.Errorf("%+v", part.Outs)
		}
	}
}

// TestMust holds P18.1: a query's columns may be nothing, and no table's column that must be something changes that.
func TestMust(t *testing.T) {
	s := schema("t", api.Column{Name: "a", Type: api.TInt, Must: true})
	s.Key = []int{0}
	_, cols, err := Query(read(t, "select a from t"), []api.Schema{s})
	if err != api.OK || !slices.Equal(cols, []api.Column{col("a", api.TInt)}) {
		t.Errorf("%+v, error %d", cols, err)
	}
}
