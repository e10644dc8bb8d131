package print

import (
	"math"
	"reflect"
	"strings"
	"testing"

	"belvedere/api"
	"belvedere/lex"
	"belvedere/parse"
)

func col(name string) api.Expr              { return api.Expr{Kind: api.EColumn, Name: name} }
func of(table, name string) api.Expr        { return api.Expr{Kind: api.EColumn, Table: table, Name: name} }
func val(v api.Value) api.Expr              { return api.Expr{Kind: api.EValue, Val: v} }
func num(n int) api.Value                   { return api.Value{Kind: api.TInt, N: n} }
func quote(s string) api.Value              { return api.Value{Kind: api.TText, S: s} }
func truth(n int) api.Value                 { return api.Value{Kind: api.TBool, N: n} }
func n(i int) api.Expr                      { return val(num(i)) }
func calc(kind int, l ...api.Expr) api.Expr { return api.Expr{Kind: kind, Args: l} }
func cond(kind int, l ...api.Cond) api.Cond { return api.Cond{Kind: kind, Args: l} }
func is(name string, i int) api.Cond        { return comp(col(name), api.OpEq, n(i)) }

func comp(l api.Expr, op int, r api.Expr) api.Cond {
	return api.Cond{Kind: api.CCompare, Op: op, L: l, R: r}
}

func items(l ...api.Expr) []api.Item {
	var r []api.Item
	for _, e := range l {
		r = append(r, api.Item{E: e})
	}
	return r
}

func from(l ...string) []api.Source {
	var r []api.Source
	for _, s := range l {
		r = append(r, api.Source{Name: s, As: s})
	}
	return r
}

func query(l ...api.Select) api.Query { return api.Query{Parts: l} }

// plain is select a from t.
func plain() api.Select { return api.Select{Items: items(col("a")), From: from("t")} }

// told holds that one tells x as want.
func told[T any](t *testing.T, one func(T) string, x T, want string) {
	t.Helper()
	if got := one(x); got != want {
		t.Errorf("%+v: %q, want %q", x, got, want)
	}
}

// TestColumns holds P10.1 of columns and of values.
func TestColumns(t *testing.T) {
	for _, x := range []struct {
		e    api.Expr
		want string
	}{
		{col("a"), "a"},
		{of("t", "a"), "t.a"},
		{api.Expr{Kind: api.EColumn, Table: "t", Name: "a", Val: num(5), Args: []api.Expr{n(1)}}, "t.a"},
		{col("_x9"), "_x9"},
		{n(0), "0"},
		{n(5), "5"},
		{n(-5), "-5"},
		{n(math.MaxInt64), "9223372036854775807"},
		{n(math.MinInt64), "-9223372036854775808"},
		{val(api.Value{}), "null"},
		{val(truth(1)), "true"},
		{val(truth(0)), "false"},
		{val(quote("")), "''"},
		{val(quote("x")), "'x'"},
		{val(quote("it's")), "'it''s'"},
		{val(quote("'")), "''''"},
		{val(quote("''( , . - ")), "'''''( , . - '"},
		{val(quote(strings.Repeat("'", 64))), strings.Repeat("'", 130)},
		{val(api.Value{Kind: 4, N: 1, S: "x"}), "null"},
		{val(api.Value{Kind: -1}), "null"},
	} {
		told(t, Expr, x.e, x.want)
	}
}

// TestOtherExprs holds P10.1 of kinds that are none: they're their values.
func TestOtherExprs(t *testing.T) {
	for _, kind := range []int{0, 7, 8, -1, math.MaxInt, math.MinInt} {
		e := api.Expr{Kind: kind, Table: "t", Name: "a", Args: []api.Expr{col("a"), col("b")}}
		told(t, Expr, e, "null")
		e.Val = num(-7)
		told(t, Expr, e, "-7")
		told(t, Expr, calc(api.EMul, e, e), "-7 * -7")
		told(t, Expr, calc(api.ESub, e, e), "-7 - -7")
		told(t, Expr, calc(api.ENeg, e), "-(-7)")
		e.Val = quote("a")
		told(t, Expr, calc(api.EAdd, e, n(1)), "'a' + 1")
	}
	told(t, Expr, api.Expr{}, "null")
}

// TestArguments holds P10.1 of arguments that aren't there, and of more than there should be.
func TestArguments(t *testing.T) {
	a, b, c := col("a"), col("b"), col("c")
	for _, x := range []struct {
		e    api.Expr
		want string
	}{
		{calc(api.EAdd), "null + null"},
		{calc(api.ESub), "null - null"},
		{calc(api.EMul), "null * null"},
		{calc(api.ENeg), "-(null)"},
		{calc(api.EAdd, a), "a + null"},
		{calc(api.ESub, a), "a - null"},
		{calc(api.EMul, calc(api.EAdd, a)), "(a + null) * null"},
		{calc(api.EAdd, a, b, c), "a + b"},
		{calc(api.ESub, a, b, c), "a - b"},
		{calc(api.EMul, a, b, c, c), "a * b"},
		{calc(api.ENeg, a, b), "-a"},
		{api.Expr{Kind: api.EAdd, Table: "t", Name: "x", Val: num(3)}, "null + null"},
		{api.Expr{Kind: api.ENeg, Table: "t", Name: "x", Val: num(3)}, "-(null)"},
	} {
		told(t, Expr, x.e, x.want)
	}
}

// TestBrackets holds P10.1 of expressions inside one another, on each side: brackets stand just where the chapter sets them.
func TestBrackets(t *testing.T) {
	inner := []struct {
		e    api.Expr
		text string
	}{
		{calc(api.EAdd, col("a"), col("b")), "a + b"},
		{calc(api.ESub, col("a"), col("b")), "a - b"},
		{calc(api.EMul, col("a"), col("b")), "a * b"},
		{calc(api.ENeg, col("a")), "-a"},
		{col("a"), "a"},
		{of("t", "a"), "t.a"},
		{n(5), "5"},
		{n(-5), "-5"},
		{val(api.Value{}), "null"},
		{api.Expr{Kind: 9}, "null"},
	}
	// For each place, which of inner stand in brackets there, in their order.
	for _, x := range []struct {
		make     func(api.Expr) api.Expr
		text     string
		brackets string
	}{
		{func(e api.Expr) api.Expr { return calc(api.EAdd, e, col("c")) }, "@ + c", ".........."},
		{func(e api.Expr) api.Expr { return calc(api.ESub, e, col("c")) }, "@ - c", ".........."},
		{func(e api.Expr) api.Expr { return calc(api.EMul, e, col("c")) }, "@ * c", "xx........"},
		{func(e api.Expr) api.Expr { return calc(api.EAdd, col("c"), e) }, "c + @", "xx........"},
		{func(e api.Expr) api.Expr { return calc(api.ESub, col("c"), e) }, "c - @", "xx........"},
		{func(e api.Expr) api.Expr { return calc(api.EMul, col("c"), e) }, "c * @", "xxx......."},
		{func(e api.Expr) api.Expr { return calc(api.ENeg, e) }, "-@", "xxxx..xxxx"},
	} {
		for i, in := range inner {
			text := in.text
			if x.brackets[i] == 'x' {
				text = "(" + text + ")"
			}
			told(t, Expr, x.make(in.e), strings.ReplaceAll(x.text, "@", text))
		}
	}
	a := calc(api.EAdd, col("a"), calc(api.EAdd, col("b"), calc(api.EMul, calc(api.ENeg, calc(api.ENeg, col("c"))), n(-1))))
	told(t, Expr, a, "a + (b + -(-c) * -1)")
	told(t, Expr, calc(api.ENeg, a), "-(a + (b + -(-c) * -1))")
}

// TestConds holds P10.1 of conditions without others inside, and of kinds and operators that are none.
func TestConds(t *testing.T) {
	a, b := calc(api.EAdd, col("a"), n(1)), calc(api.EMul, of("t", "b"), n(-2))
	for op, sign := range map[int]string{1: "=", 2: "<>", 3: "<", 4: "<=", 5: ">", 6: ">=", 0: "=", 7: "=", 8: "=", -1: "=", math.MaxInt: "=", math.MinInt: "="} {
		for _, kind := range []int{api.CCompare, api.CNone, 7, 8, -1, math.MaxInt, math.MinInt} {
			c := api.Cond{Kind: kind, Op: op, L: col("a"), R: val(quote("x")), Args: []api.Cond{is("b", 1)}}
			told(t, Cond, c, "a "+sign+" 'x'")
			c.L, c.R = a, b
			told(t, Cond, c, "a + 1 "+sign+" t.b * -2")
		}
		told(t, Cond, api.Cond{Kind: api.CNull, Op: op, L: a, R: b}, "a + 1 is null")
		told(t, Cond, api.Cond{Kind: api.CSome, Op: op, L: b, R: a}, "t.b * -2 is not null")
	}
	told(t, Cond, api.Cond{}, "null = null")
	told(t, Cond, api.Cond{Kind: api.CNull}, "null is null")
	told(t, Cond, api.Cond{Kind: api.CSome}, "null is not null")
	told(t, Cond, comp(n(-1), api.OpLt, n(math.MinInt64)), "-1 < -9223372036854775808")
}

// TestHeldConds holds P10.1 of each kind of condition inside each other one.
func TestHeldConds(t *testing.T) {
	x, y := is("x", 1), is("y", 2)
	inner := []struct {
		c    api.Cond
		text string
	}{
		{is("a", 1), "a = 1"},
		{api.Cond{Kind: api.CNull, L: col("a")}, "a is null"},
		{api.Cond{Kind: api.CSome, L: col("a")}, "a is not null"},
		{cond(api.CNot, is("a", 1)), "not a = 1"},
		{cond(api.CNot), "not null = null"},
		{api.Cond{}, "null = null"},
		{api.Cond{Kind: 9, Op: 3, L: col("a"), R: col("b")}, "a < b"},
		{cond(api.CAnd, is("a", 1), is("b", 2)), "a = 1 and b = 2"},
		{cond(api.CAnd, is("a", 1)), "a = 1"},
		{cond(api.COr, is("a", 1), is("b", 2)), "a = 1 or b = 2"},
		{cond(api.COr, is("a", 1)), "a = 1"},
	}
	for _, o := range []struct {
		make     func(api.Cond) api.Cond
		text     string
		brackets string
	}{
		{func(c api.Cond) api.Cond { return cond(api.CAnd, c) }, "@", ".......xxxx"},
		{func(c api.Cond) api.Cond { return cond(api.CAnd, c, x) }, "@ and x = 1", ".......xxxx"},
		{func(c api.Cond) api.Cond { return cond(api.CAnd, x, c) }, "x = 1 and @", ".......xxxx"},
		{func(c api.Cond) api.Cond { return cond(api.CAnd, x, c, y, c) }, "x = 1 and @ and y = 2 and @", ".......xxxx"},
		{func(c api.Cond) api.Cond { return cond(api.COr, c) }, "@", ".........xx"},
		{func(c api.Cond) api.Cond { return cond(api.COr, c, x) }, "@ or x = 1", ".........xx"},
		{func(c api.Cond) api.Cond { return cond(api.COr, x, c) }, "x = 1 or @", ".........xx"},
		{func(c api.Cond) api.Cond { return cond(api.COr, x, c, y, c) }, "x = 1 or @ or y = 2 or @", ".........xx"},
		{func(c api.Cond) api.Cond { return cond(api.CNot, c) }, "not @", ".......xxxx"},
		{func(c api.Cond) api.Cond { return cond(api.CNot, c, x) }, "not @", ".......xxxx"},
		{func(c api.Cond) api.Cond { return cond(api.CNot, cond(api.CNot, c)) }, "not not @", ".......xxxx"},
	} {
		for i, in := range inner {
			text := in.text
			if o.brackets[i] == 'x' {
				text = "(" + text + ")"
			}
			told(t, Cond, o.make(in.c), strings.ReplaceAll(o.text, "@", text))
		}
	}
	told(t, Cond, cond(api.COr, cond(api.CAnd, x, cond(api.COr, x, cond(api.CAnd, x, y))), cond(api.COr, x, y)), "x = 1 and (x = 1 or x = 1 and y = 2) or (x = 1 or y = 2)")
}

// TestNoConds holds P10.1 of an and or an or that joins nothing: nothing stands there, in brackets where these are set.
func TestNoConds(t *testing.T) {
	none := []api.Cond{cond(api.CAnd), cond(api.COr), {Kind: api.CAnd, Op: 1, L: col("a"), R: col("b")}, {Kind: api.COr, Op: 1, L: col("a"), R: col("b")}}
	for _, c := range none {
		told(t, Cond, c, "")
		told(t, Cond, cond(api.CNot, c), "not ()")
		told(t, Cond, cond(api.CAnd, c), "()")
		told(t, Cond, cond(api.CAnd, is("a", 1), c), "a = 1 and ()")
		told(t, Cond, cond(api.CAnd, c, is("a", 1), c), "() and a = 1 and ()")
		s := plain()
		s.Where = c
		words(t, Query, query(s), "select a from t where")
	}
	told(t, Cond, cond(api.COr, cond(api.COr), cond(api.COr)), "() or ()")
	told(t, Cond, cond(api.COr, cond(api.CAnd)), "")
	words(t, Cond, cond(api.COr, cond(api.CAnd), is("a", 1), cond(api.CAnd)), "or a = 1 or")
}

// words holds that one tells x by the words of want alone: what blanks stand around nothing the chapter doesn't say.
func words[T any](t *testing.T, one func(T) string, x T, want string) {
	t.Helper()
	got := one(x)
	if !reflect.DeepEqual(strings.Fields(got), strings.Fields(want)) {
		t.Errorf("%+v: %q, want the words %q", x, got, want)
	}
}

// TestItems holds P10.1 of items: each aggregate, with as and without.
func TestItems(t *testing.T) {
	sum := calc(api.EAdd, col("a"), of("t", "b"))
	for agg, want := range map[int]string{
		api.ANone: "@", api.ACount: "count(*)", api.ASome: "count(@)", api.ASum: "sum(@)", api.AMin: "min(@)", api.AMax: "max(@)",
		api.ATotal: "count(@)", 7: "count(@)", -1: "count(@)", math.MaxInt: "count(@)", math.MinInt: "count(@)",
	} {
		for _, in := range []struct {
			e    api.Expr
			text string
		}{{col("a"), "a"}, {sum, "a + t.b"}, {calc(api.ENeg, sum), "-(a + t.b)"}, {calc(api.EMul, sum, n(2)), "(a + t.b) * 2"}, {api.Expr{}, "null"}} {
			text := strings.ReplaceAll(want, "@", in.text)
			i := api.Item{Agg: agg, E: in.e}
			told(t, Query, query(api.Select{Items: []api.Item{i}, From: from("t")}), "select "+text+" from t")
			as := i
			as.As = "a"
			told(t, Query, query(api.Select{Items: []api.Item{as}, From: from("t")}), "select "+text+" as a from t")
			told(t, Query, query(api.Select{Items: []api.Item{as, i, as}, From: from("t")}), "select "+text+" as a, "+text+", "+text+" as a from t")
		}
	}
}

// TestSources holds P10.1 of sources: as stands there, if what is behind it isn't the name.
func TestSources(t *testing.T) {
	s := plain()
	for _, x := range []struct {
		l    []api.Source
		want string
	}{
		{from("t"), "t"},
		{from("t", "u", "t"), "t, u, t"},
		{[]api.Source{{Name: "t", As: "u"}}, "t as u"},
		{[]api.Source{{Name: "t", As: "t"}, {Name: "t", As: "x"}, {Name: "u", As: "t"}}, "t, t as x, u as t"},
		{[]api.Source{{Name: "t", As: "tt"}, {Name: "tt", As: "t"}}, "t as tt, tt as t"},
	} {
		s.From = x.l
		told(t, Query, query(s), "select a from "+x.want)
	}
	s.From = []api.Source{{Name: "t"}}
	words(t, Query, query(s), "select a from t as")
	s.Where = is("a", 1)
	words(t, Query, query(s), "select a from t as where a = 1")
}

// TestQueries holds P10.1 of selects and queries, with each of their parts and without it.
func TestQueries(t *testing.T) {
	told(t, Query, query(), "")
	told(t, Query, query(plain()), "select a from t")
	var all []api.Select
	var text []string
	for i := range 16 {
		s, want := plain(), "select "
		if i&1 > 0 {
			s.Distinct = true
			want += "distinct "
		}
		s.Items = append(s.Items, api.Item{Agg: api.ASum, E: of("t", "b"), As: "s"})
		want += "a, sum(t.b) as s from t"
		if i&2 > 0 {
			s.Where = cond(api.CAnd, is("a", 1), cond(api.COr, is("b", 2), is("c", -3)))
			want += " where a = 1 and (b = 2 or c = -3)"
		}
		if i&4 > 0 {
			s.Group = []api.Expr{col("a")}
			want += " group by a"
		}
		if i&8 > 0 {
			s.Group = append(s.Group, of("t", "b"), col("c"))
			want += []string{" group by ", ", "}[i>>2&1] + "t.b, c"
		}
		told(t, Query, query(s), want)
		all, text = append(all, s), append(text, want)
		told(t, Query, query(all...), strings.Join(text, " union all "))
	}
	s := plain()
	s.Where = api.Cond{Op: 3, L: col("a"), R: col("b"), Args: []api.Cond{is("a", 1)}}
	told(t, Query, query(s), "select a from t")
	s.Where.Kind = -1
	told(t, Query, query(s), "select a from t where a < b")
	words(t, Query, query(api.Select{}), "select from")
	words(t, Query, query(api.Select{}, api.Select{Distinct: true}), "select from union all select distinct from")
}

// TestEmpty holds P10.1 where a statement has fewer parts than a command may have.
func TestEmpty(t *testing.T) {
	told(t, Stmt, api.Stmt{}, "")
	told(t, Stmt, api.Stmt{Kind: api.SQuery}, "")
	told(t, Stmt, api.Stmt{Kind: api.STable, Name: "t"}, "create table t ()")
	told(t, Stmt, api.Stmt{Kind: api.SInsert, Name: "t", Rows: [][]api.Value{{}}}, "insert into t values ()")
	told(t, Stmt, api.Stmt{Kind: api.SInsert, Name: "t", Rows: [][]api.Value{{}, {num(1)}, nil}}, "insert into t values (), (1), ()")
	words(t, Stmt, api.Stmt{Kind: api.SInsert, Name: "t"}, "insert into t values")
	words(t, Stmt, api.Stmt{Kind: api.SUpdate, Name: "t"}, "update t set")
	words(t, Stmt, api.Stmt{Kind: api.SView, Name: "v"}, "create view v refresh as")
	words(t, Stmt, api.Stmt{Kind: api.SShow}, "show")
}

type whole struct {
	s    api.Stmt
	want string
}

// wholes are statements of each kind, with each part that may be left out there and not there.
func wholes() []whole {
	a, b, c := api.Column{Name: "a", Type: api.TInt}, api.Column{Name: "b", Type: api.TBool}, api.Column{Name: "c", Type: api.TText}
	must := func(c api.Column) api.Column { c.Must = true; return c }
	full := api.Select{Distinct: true, Items: items(col("a"), of("t", "b")), From: from("t", "u"), Where: is("a", 1), Group: []api.Expr{col("a"), of("t", "b")}}
	const written = "select distinct a, t.b from t, u where a = 1 group by a, t.b"
	sum := calc(api.EMul, calc(api.ENeg, n(5)), col("b"))
	return []whole{
		{api.Stmt{Kind: api.SQuery, Query: query(plain())}, "select a from t"},
		{api.Stmt{Kind: api.SQuery, Query: query(full)}, written},
		{api.Stmt{Kind: api.SQuery, Query: query(plain(), full)}, "select a from t union all " + written},
		{api.Stmt{Kind: api.STable, Name: "t", Cols: []api.Column{a}}, "create table t (a int)"},
		{api.Stmt{Kind: api.STable, Name: "t", Cols: []api.Column{must(a)}}, "create table t (a int not null)"},
		{api.Stmt{Kind: api.STable, Name: "t", Cols: []api.Column{a, b, c}}, "create table t (a int, b bool, c text)"},
		{api.Stmt{Kind: api.STable, Name: "t", Cols: []api.Column{must(c), a, must(b)}, Keys: []string{"c"}}, "create table t (c text not null, a int, b bool not null, primary key (c))"},
		{api.Stmt{Kind: api.STable, Name: "t", Cols: []api.Column{a}, Keys: []string{"b", "a", "b"}}, "create table t (a int, primary key (b, a, b))"},
		{api.Stmt{Kind: api.SDropTable, Name: "t"}, "drop table t"},
		{api.Stmt{Kind: api.SLog, Name: "t"}, "create log on t"},
		{api.Stmt{Kind: api.SDropLog, Name: "t"}, "drop log on t"},
		{api.Stmt{Kind: api.SView, Name: "v", Mode: api.MFast, Query: query(plain())}, "create view v refresh fast as select a from t"},
		{api.Stmt{Kind: api.SView, Name: "v", Mode: api.MComplete, Query: query(full)}, "create view v refresh complete as " + written},
		{api.Stmt{Kind: api.SView, Name: "v", Mode: api.MForce, Query: query(full, plain())}, "create view v refresh force as " + written + " union all select a from t"},
		{api.Stmt{Kind: api.SDropView, Name: "v"}, "drop view v"},
		{api.Stmt{Kind: api.SInsert, Name: "t", Rows: [][]api.Value{{num(1)}}}, "insert into t values (1)"},
		{api.Stmt{Kind: api.SInsert, Name: "t", Rows: [][]api.Value{{num(-1), {}, truth(1)}, {truth(0), quote("a'b")}, {num(math.MinInt64)}}}, "insert into t values (-1, null, true), (false, 'a''b'), (-9223372036854775808)"},
		{api.Stmt{Kind: api.SDelete, Name: "t"}, "delete from t"},
		{api.Stmt{Kind: api.SDelete, Name: "t", Where: cond(api.CNot, is("a", 1))}, "delete from t where not a = 1"},
		{api.Stmt{Kind: api.SUpdate, Name: "t", Sets: []api.Set{{Name: "a", E: sum}}}, "update t set a = -(5) * b"},
		{api.Stmt{Kind: api.SUpdate, Name: "t", Sets: []api.Set{{Name: "a", E: n(-1)}, {Name: "b", E: col("a")}}, Where: api.Cond{Kind: api.CNull, L: col("a")}}, "update t set a = -1, b = a where a is null"},
		{api.Stmt{Kind: api.SRefresh, Name: "v"}, "refresh v"},
		{api.Stmt{Kind: api.SRefresh, Name: "v", Mode: api.MFast}, "refresh v fast"},
		{api.Stmt{Kind: api.SRefresh, Name: "v", Mode: api.MComplete}, "refresh v complete"},
		{api.Stmt{Kind: api.SRefresh, Name: "v", Mode: api.MForce}, "refresh v force"},
		{api.Stmt{Kind: api.SRefreshAll, Name: "v"}, "refresh v nested"},
		{api.Stmt{Kind: api.SRefreshAll, Name: "v", Mode: api.MFast}, "refresh v fast nested"},
		{api.Stmt{Kind: api.SRefreshAll, Name: "v", Mode: api.MComplete}, "refresh v complete nested"},
		{api.Stmt{Kind: api.SRefreshAll, Name: "v", Mode: api.MForce}, "refresh v force nested"},
		{api.Stmt{Kind: api.SPurge, Name: "t"}, "purge log on t"},
		{api.Stmt{Kind: api.SRewrite, N: 1}, "set rewrite on"},
		{api.Stmt{Kind: api.SRewrite}, "set rewrite off"},
		{api.Stmt{Kind: api.SPolicy}, "set policy enforced"},
		{api.Stmt{Kind: api.SPolicy, N: 1}, "set policy tolerated"},
		{api.Stmt{Kind: api.SShow, Name: "t"}, "show t"},
	}
}

// TestWholes holds P10.1 and P10.2 of each kind of statement.
func TestWholes(t *testing.T) {
	for _, w := range wholes() {
		told(t, Stmt, w.s, w.want)
		if got, err := parse.Parse(w.want, api.MaxDepth); err != api.OK || !reflect.DeepEqual(got, w.s) {
			t.Errorf("%q is read as %+v, %d", w.want, got, err)
		}
	}
}

// TestOtherFields holds P10.1: what isn't of a statement's kind isn't told of it.
func TestOtherFields(t *testing.T) {
	more := api.Stmt{
		Name: "x", Cols: []api.Column{{Name: "y", Type: api.TText}}, Keys: []string{"y"}, Query: query(plain()), Mode: api.MFast,
		Rows: [][]api.Value{{num(1)}}, Sets: []api.Set{{Name: "y", E: n(1)}}, Where: is("y", 1), N: 1,
	}
	for kind, want := range map[int]string{
		api.SQuery: "select a from t", api.STable: "create table x (y text, primary key (y))", api.SDropTable: "drop table x", api.SLog: "create log on x", api.SDropLog: "drop log on x",
		api.SView: "create view x refresh fast as select a from t", api.SDropView: "drop view x", api.SInsert: "insert into x values (1)", api.SDelete: "delete from x where y = 1",
		api.SUpdate: "update x set y = 1 where y = 1", api.SRefresh: "refresh x fast", api.SPurge: "purge log on x", api.SRewrite: "set rewrite on", api.SPolicy: "set policy tolerated",
		api.SShow: "show x", api.SRefreshAll: "refresh x fast nested",
		0: "select a from t", 17: "select a from t", 18: "select a from t", -1: "select a from t", math.MaxInt: "select a from t", math.MinInt: "select a from t",
	} {
		more.Kind = kind
		told(t, Stmt, more, want)
	}
}

// TestNone holds P10.1 of modes and types that are none.
func TestNone(t *testing.T) {
	for _, none := range []int{0, 4, 5, -1, math.MaxInt, math.MinInt} {
		told(t, Stmt, api.Stmt{Kind: api.SView, Name: "v", Mode: none, Query: query(plain())}, "create view v refresh as select a from t")
		told(t, Stmt, api.Stmt{Kind: api.SRefresh, Name: "v", Mode: none}, "refresh v")
		told(t, Stmt, api.Stmt{Kind: api.SRefreshAll, Name: "v", Mode: none}, "refresh v nested")
		cols := []api.Column{{Name: "a", Type: none}, {Name: "b", Type: none, Must: true}}
		told(t, Stmt, api.Stmt{Kind: api.STable, Name: "t", Cols: cols}, "create table t (a int, b int not null)")
		told(t, Stmt, api.Stmt{Kind: api.STable, Name: "t", Cols: cols, Keys: []string{"a", "b"}}, "create table t (a int, b int not null, primary key (a, b))")
	}
}

// TestDeep holds P1: parts that are nested as deep as the document promises are told, and soon.
func TestDeep(t *testing.T) {
	const deep = 1 << 16
	left, right, neg, not, both := col("a"), col("a"), col("a"), is("a", 1), is("a", 1)
	for range deep {
		left = calc(api.EAdd, left, n(1))
		right = calc(api.EMul, n(1), right)
		neg = calc(api.ENeg, neg)
		not = cond(api.CNot, not)
		both = cond(api.CAnd, is("b", 2), both)
	}
	told1 := func(got, want string) {
		t.Helper()
		if got != want {
			t.Errorf("%d bytes: %.40q, want %d: %.40q", len(got), got, len(want), want)
		}
	}
	told1(Expr(left), "a"+strings.Repeat(" + 1", deep))
	told1(Expr(right), strings.Repeat("1 * (", deep-1)+"1 * a"+strings.Repeat(")", deep-1))
	told1(Expr(neg), strings.Repeat("-(", deep-1)+"-a"+strings.Repeat(")", deep-1))
	told1(Cond(not), strings.Repeat("not ", deep)+"a = 1")
	told1(Cond(both), strings.Repeat("b = 2 and (", deep-1)+"b = 2 and a = 1"+strings.Repeat(")", deep-1))
}

// TestKept holds that what is handed in stays as it was, and that a call hangs on its arguments alone.
func TestKept(t *testing.T) {
	for i, w := range wholes() {
		s := w.s
		first := Stmt(s)
		if !reflect.DeepEqual(s, wholes()[i].s) {
			t.Errorf("%q has changed what it's told of", first)
		}
		told(t, Stmt, s, first)
	}
}

// TestExamples holds the chapter's example, and P10.2 of a few commands that aren't written as they're printed.
func TestExamples(t *testing.T) {
	for _, x := range [][2]string{
		{"select  a-(b-c)*2 from t where not(a=1 or b>'x')and c is not null", "select a - (b - c) * 2 from t where not (a = 1 or b > 'x') and c is not null"},
		{"select((a))from t", "select a from t"},
		{"select (a+b)+c,a+(b+c),(a*b)*c,a*(b*c),(a*b)+c,a*(b+c) from t", "select a + b + c, a + (b + c), a * b * c, a * (b * c), a * b + c, a * (b + c) from t"},
		{"select a - -5, a-5, a- -(5), - - a, -(- a)*- b, -t . a from t", "select a - -5, a - 5, a - -(5), -(-a), -(-a) * -b, -t.a from t"},
		{"select count ( * ) , count( a )as n , sum((a)) , min ( - 1 ) , max(-(1)) from t", "select count(*), count(a) as n, sum(a), min(-1), max(-(1)) from t"},
		{"select a as a from t as t, t as u", "select a as a from t, t as u"},
		{"select a from t where((a=1))or(b=2 and(c=3 and a<>1))or not(not a<=-1)", "select a from t where a = 1 or b = 2 and (c = 3 and a <> 1) or not not a <= -1"},
		{"select a from t where (a = 1 or b = 2) or c = 3", "select a from t where (a = 1 or b = 2) or c = 3"},
		{"insert into t values(- 5,'''')", "insert into t values (-5, '''')"},
		{"create table t(a int,b text not null,primary key(b,a))", "create table t (a int, b text not null, primary key (b, a))"},
		{"  refresh  v  nested  ", "refresh v nested"},
	} {
		s := again(t, x[0])
		if s != x[1] {
			t.Errorf("%q is printed %q, want %q", x[0], s, x[1])
		}
	}
}

// again holds P10.2 of a command, and answers its statement's text, which may be too long to be read again.
func again(t *testing.T, command string) string {
	t.Helper()
	s, err := parse.Parse(command, math.MaxInt)
	if err != api.OK {
		t.Errorf("%q can't be read: %d", command, err)
		return ""
	}
	text := Stmt(s)
	if _, _, err := lex.Words(text); err == api.ErrLong {
		return text
	}
	got, err := parse.Parse(text, math.MaxInt)
	if err != api.OK || !reflect.DeepEqual(got, s) || Stmt(got) != text {
		t.Errorf("%q is printed %q, and that is read as %+v, %d", command, text, got, err)
	}
	return text
}
