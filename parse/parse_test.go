package parse

import (
	"math"
	"reflect"
	"strconv"
	"strings"
	"testing"

	"belvedere/api"
)

func col(name string) api.Expr              { return api.Expr{Kind: api.EColumn, Name: name} }
func of(table, name string) api.Expr        { return api.Expr{Kind: api.EColumn, Table: table, Name: name} }
func val(v api.Value) api.Expr              { return api.Expr{Kind: api.EValue, Val: v} }
func num(n int) api.Value                   { return api.Value{Kind: api.TInt, N: n} }
func text(s string) api.Value               { return api.Value{Kind: api.TText, S: s} }
func truth(n int) api.Value                 { return api.Value{Kind: api.TBool, N: n} }
func nothing() api.Value                    { return api.Value{} }
func calc(kind int, l ...api.Expr) api.Expr { return api.Expr{Kind: kind, Args: l} }
func n(i int) api.Expr                      { return val(num(i)) }

func comp(l api.Expr, op int, r api.Expr) api.Cond {
	return api.Cond{Kind: api.CCompare, Op: op, L: l, R: r}
}
func is(name string, i int) api.Cond        { return comp(col(name), api.OpEq, n(i)) }
func cond(kind int, l ...api.Cond) api.Cond { return api.Cond{Kind: kind, Args: l} }

func items(l ...api.Expr) []api.Item {
	var r []api.Item
	for _, e := range l {
		r = append(r, api.Item{E: e})
	}
	return r
}

func from(l ...string) []api.Source {
	var r []api.Source
	for _, s := range l {
		r = append(r, api.Source{Name: s, As: s})
	}
	return r
}

func query(l ...api.Select) api.Query { return api.Query{Parts: l} }
func asked(l ...api.Select) api.Stmt  { return api.Stmt{Kind: api.SQuery, Query: query(l...)} }

// plain is select a from t.
func plain() api.Select { return api.Select{Items: items(col("a")), From: from("t")} }

// where is select a from t where c.
func where(c api.Cond) api.Stmt {
	s := plain()
	s.Where = c
	return asked(s)
}

// read holds that s is read as want at the depth, and at all greater ones (P9.3).
func read(t *testing.T, s string, depth int, want api.Stmt) {
	t.Helper()
	for _, d := range []int{depth, depth + 1, depth + 7, api.MaxDepth, math.MaxInt} {
		if d < depth {
			continue
		}
		if got, err := Parse(s, d); err != api.OK || !reflect.DeepEqual(got, want) {
			t.Errorf("Parse(%q, %d): %+v, %d, want %+v", s, d, got, err, want)
		}
	}
}

// refused holds that s has this fault at the depth, and no statement.
func refused(t *testing.T, s string, depth int, want api.Errno) {
	t.Helper()
	if got, err := Parse(s, depth); err != want || !reflect.DeepEqual(got, api.Stmt{}) {
		t.Errorf("Parse(%q, %d): %+v, %d, want nothing and %d", s, depth, got, err, want)
	}
}

// just holds that s is read as want at this depth and all greater ones, and has ErrResource one less deep.
func just(t *testing.T, s string, depth int, want api.Stmt) {
	t.Helper()
	read(t, s, depth, want)
	refused(t, s, depth-1, api.ErrResource)
}

// times is s so many times, with commas between.
func times(n int, s string) string {
	return strings.TrimSuffix(strings.Repeat(s+", ", n), ", ")
}

type whole struct {
	s    string
	want api.Stmt
}

// wholes are statements of each kind, with each part that may be left out there and not there.
func wholes() []whole {
	a, b := api.Column{Name: "a", Type: api.TInt}, api.Column{Name: "b", Type: api.TBool}
	must := api.Column{Name: "c", Type: api.TText, Must: true}
	sets := []api.Set{{Name: "a", E: n(1)}}
	full := api.Select{Distinct: true, Items: items(col("a")), From: from("t"), Where: is("a", 1), Group: []api.Expr{col("a")}}
	return []whole{
		{"select a from t", asked(plain())},
		{"select distinct a from t where a = 1 group by a", asked(full)},
		{"select a from t union all select a from t", asked(plain(), plain())},
		{"create table t (a int)", api.Stmt{Kind: api.STable, Name: "t", Cols: []api.Column{a}}},
		{"create table t (a int, b bool, c text not null)", api.Stmt{Kind: api.STable, Name: "t", Cols: []api.Column{a, b, must}}},
		{"create table t (a int, primary key (a))", api.Stmt{Kind: api.STable, Name: "t", Cols: []api.Column{a}, Keys: []string{"a"}}},
		{"create table t (c text not null, a int, primary key (x, a, x))", api.Stmt{Kind: api.STable, Name: "t", Cols: []api.Column{must, a}, Keys: []string{"x", "a", "x"}}},
		{"create log on t", api.Stmt{Kind: api.SLog, Name: "t"}},
		{"create view v refresh fast as select a from t", api.Stmt{Kind: api.SView, Name: "v", Mode: api.MFast, Query: query(plain())}},
		{"create view v refresh complete as select a from t", api.Stmt{Kind: api.SView, Name: "v", Mode: api.MComplete, Query: query(plain())}},
		{"create view v refresh force as select a from t union all select a from t", api.Stmt{Kind: api.SView, Name: "v", Mode: api.MForce, Query: query(plain(), plain())}},
		{"drop table t", api.Stmt{Kind: api.SDropTable, Name: "t"}},
		{"drop log on t", api.Stmt{Kind: api.SDropLog, Name: "t"}},
		{"drop view v", api.Stmt{Kind: api.SDropView, Name: "v"}},
		{"insert into t values (1)", api.Stmt{Kind: api.SInsert, Name: "t", Rows: [][]api.Value{{num(1)}}}},
		{"insert into t values (1, null), (true), (false, 'x', -7)", api.Stmt{Kind: api.SInsert, Name: "t", Rows: [][]api.Value{{num(1), nothing()}, {truth(1)}, {truth(0), text("x"), num(-7)}}}},
		{"delete from t", api.Stmt{Kind: api.SDelete, Name: "t"}},
		{"delete from t where a = 1", api.Stmt{Kind: api.SDelete, Name: "t", Where: is("a", 1)}},
		{"update t set a = 1", api.Stmt{Kind: api.SUpdate, Name: "t", Sets: sets}},
		{"update t set a = 1, b = a where a = 1", api.Stmt{Kind: api.SUpdate, Name: "t", Sets: []api.Set{{Name: "a", E: n(1)}, {Name: "b", E: col("a")}}, Where: is("a", 1)}},
		{"refresh v", api.Stmt{Kind: api.SRefresh, Name: "v"}},
		{"refresh v fast", api.Stmt{Kind: api.SRefresh, Name: "v", Mode: api.MFast}},
		{"refresh v complete", api.Stmt{Kind: api.SRefresh, Name: "v", Mode: api.MComplete}},
		{"refresh v force", api.Stmt{Kind: api.SRefresh, Name: "v", Mode: api.MForce}},
		{"refresh v nested", api.Stmt{Kind: api.SRefreshAll, Name: "v"}},
		{"refresh v fast nested", api.Stmt{Kind: api.SRefreshAll, Name: "v", Mode: api.MFast}},
		{"refresh v complete nested", api.Stmt{Kind: api.SRefreshAll, Name: "v", Mode: api.MComplete}},
		{"refresh v force nested", api.Stmt{Kind: api.SRefreshAll, Name: "v", Mode: api.MForce}},
		{"purge log on t", api.Stmt{Kind: api.SPurge, Name: "t"}},
		{"set rewrite on", api.Stmt{Kind: api.SRewrite, N: 1}},
		{"set rewrite off", api.Stmt{Kind: api.SRewrite}},
		{"set policy enforced", api.Stmt{Kind: api.SPolicy}},
		{"set policy tolerated", api.Stmt{Kind: api.SPolicy, N: 1}},
		{"show t", api.Stmt{Kind: api.SShow, Name: "t"}},
	}
}

// TestWholes holds P9.1: each kind of statement is read, at all depths, and all that isn't named of its fields is zero.
func TestWholes(t *testing.T) {
	for _, w := range wholes() {
		for _, depth := range []int{math.MinInt, -1, 0} {
			read(t, w.s, depth, w.want)
		}
	}
}

// TestTooManyOrFew holds P9.2: a word too many, one too few, none at all, another one in a word's place.
func TestTooManyOrFew(t *testing.T) {
	all := map[string]bool{}
	for _, w := range wholes() {
		all[w.s] = true
	}
	for _, w := range wholes() {
		for _, more := range []string{"z", "1", "'x'", ")", "select", "null", ".", "nested nested", "-"} {
			refused(t, w.s+" "+more, 9, api.ErrSyntax)
			refused(t, more+" "+w.s, 9, api.ErrSyntax)
		}
		l := strings.Fields(w.s)
		for i := range l {
			if short := strings.Join(l[:i], " "); !ends(all, short) {
				refused(t, short, 9, api.ErrSyntax)
			}
			other := append([]string{}, l...)
			other[i] = "."
			refused(t, strings.Join(other, " "), 9, api.ErrSyntax)
		}
	}
	for _, s := range []string{"", " ", "a", "t (a int)", "1", "'select'", "(select a from t)", "select", "create", "drop", "insert", "set", "or", "as"} {
		refused(t, s, 9, api.ErrSyntax)
	}
}

// ends tells whether a statement may end behind s, which a statement begins with.
func ends(all map[string]bool, s string) bool {
	return all[s] || strings.HasPrefix(s, "insert") && strings.HasSuffix(s, ")") || s == "update t set a = 1, b = a" ||
		s == "select distinct a from t" || s == "select distinct a from t where a = 1" || s == "create view v refresh force as select a from t"
}

// TestNotTheGrammar holds P9.2: what looks like a statement and is none.
func TestNotTheGrammar(t *testing.T) {
	for _, s := range []string{
		"select from t", "select * from t", "select a t", "select a from", "select a, from t", "select , a from t", "select a from t,", "select a from t u",
		"select distinct distinct a from t", "select all a from t", "select a as from t", "select a b from t", "select a from t as",
		"select a from (select a from t)", "select a from t group a", "select a from t group by", "select a from t group by 1", "select a from t group by a + b",
		"select a from t group by a where a = 1", "select a from t where", "select a from t where a = 1 where a = 1", "select a from t union select a from t",
		"select a from t union all", "select a from t union all all select a from t", "select a from t; ",
		"select sum a from t", "select sum() from t", "select sum(*) from t", "select min(*) from t", "select max(*) from t", "select count() from t", "select count from t",
		"select count(a, b) from t", "select count(* from t", "select count(*) + 1 from t", "select sum(a) + 1 from t", "select 1 + sum(a) from t", "select sum(sum(a)) from t",
		"select (sum(a)) from t", "select count(distinct a) from t", "select (a from t", "select a) from t", "select () from t", "select a + from t", "select + a from t",
		"select a * from t", "select * a from t", "select a b c from t", "select a.b.c from t", "select a. from t", "select .a from t", "select 1.a from t", "select a.1 from t",
		"select a. b. from t", "select a is null from t", "select a = b from t", "select not a from t",
		"insert t values (1)", "insert into values (1)", "insert into t (1)", "insert into t values", "insert into t values ()", "insert into t values (1,)", "insert into t values (,1)",
		"insert into t values (1) (2)", "insert into t values (1),", "insert into t values 1", "insert into t values (a)", "insert into t values (1 + 1)", "insert into t values ((1))",
		"insert into t values (--1)", "insert into t values (-null)", "insert into t values (- 'x')", "insert into t values (-true)", "insert into t values (+1)", "insert into t values (1 2)",
		"delete t", "delete from", "delete from t where", "delete from t a = 1", "delete from t, u", "update t a = 1", "update set a = 1", "update t set", "update t set a", "update t set a 1",
		"update t set a =", "update t set a = 1,", "update t set a = 1 b = 2", "update t set t.a = 1", "update t set a = sum(b)", "update t set a = b = 1", "update t set where a = 1",
		"refresh", "refresh fast", "refresh v nested fast", "refresh v fast fast", "refresh v nested nested", "refresh v fast complete", "refresh nested", "purge t", "purge log t", "purge log on",
		"set rewrite", "set rewrite enforced", "set policy on", "set on", "set rewrite on off", "set policy", "set rewrite tolerated", "show", "show 1", "show 't'", "show t.a",
		"create t", "create table", "create table t", "create table t a int", "create table t (", "create table t (a)", "create table t (int a)", "create table t (a int b int)", "create table t (a int,)",
		"create table t (a number)", "create table t (a int null)", "create table t (a int not)", "create table t (a int not not null)", "create table t (t.a int)", "create table t (a int not null not null)",
		"create table t (a int primary key (a))", "create table t (a int, primary (a))", "create table t (a int, key (a))", "create table t (a int, primary key a)", "create table t (a int, primary key ())",
		"create table t (a int, primary key (a,))", "create table t (a int, primary key (1))", "create table t (a int, primary key (t.a))", "create table t (a int, primary key (a)",
		"create table t (a int, primary key (a),)", "create table t (a int, primary key (a), primary key (a))", "create table t (a int, primary key (a), b int)", "create table t as select a from t",
		"create log t", "create log on", "create log on t fast", "create view v as select a from t", "create view v refresh as select a from t", "create view v fast as select a from t",
		"create view v refresh fast select a from t", "create view v refresh fast as", "create view v refresh fast as (select a from t)", "create view v refresh fast nested as select a from t",
		"create view v refresh fast force as select a from t", "create view refresh fast as select a from t", "create view v refresh fast as show t", "drop t", "drop log t", "drop table", "drop view v, w", "drop table on t",
	} {
		refused(t, s, 9, api.ErrSyntax)
	}
}

// TestLayer8 holds P9.1: layer 8's error is told ahead of all others, wherever it is.
func TestLayer8(t *testing.T) {
	for _, s := range []string{"#", "select a from t #", "select from t 01", "show 'x", "select (((a))) from t !", "select 9223372036854775809 from t", "insert into t values (-9223372036854775809)", "SHOW t", "show\tt", "select a from t;"} {
		refused(t, s, 0, api.ErrSyntax)
	}
	long := "select '" + strings.Repeat("x", 65) + "' from t"
	refused(t, long, 0, api.ErrLong)
	refused(t, long+" #", 0, api.ErrSyntax)
	refused(t, "select ((a)) from t #", 0, api.ErrSyntax)

	read(t, "show t"+strings.Repeat(" ", 2042), 0, api.Stmt{Kind: api.SShow, Name: "t"})
	refused(t, "show t"+strings.Repeat(" ", 2043), 0, api.ErrLong)
	refused(t, "show"+strings.Repeat(" ", 2045), 0, api.ErrLong)
	refused(t, "show"+strings.Repeat(" ", 2044), 0, api.ErrSyntax)

	// 8 words, and 4 of each more simple
	many := "select a from t where a = 1" + strings.Repeat(" and a = 1", 126)
	var l []api.Cond
	for range 127 {
		l = append(l, is("a", 1))
	}
	read(t, many, 0, where(cond(api.CAnd, l...)))
	refused(t, many+" and", 0, api.ErrLong)
	refused(t, many[:len(many)-1], 0, api.ErrSyntax)
	refused(t, many+" and a = 1", 0, api.ErrLong)
	refused(t, "show"+strings.Repeat(" t", 511), 0, api.ErrSyntax)
	refused(t, "show"+strings.Repeat(" t", 512), 0, api.ErrLong)
	refused(t, "select ((a"+strings.Repeat(" a", 512), 0, api.ErrLong)
}

// TestNames holds that words of the language, and what isn't layer 8's Name, stand nowhere where a name must.
func TestNames(t *testing.T) {
	names := []string{
		"select @.a from t", "select a.@ from t", "select a as @ from t", "select a from @", "select a from t as @", "select a from t, @", "select a from t where a.@ = 1", "select a from t where 1 = @.a",
		"select a from t group by @", "select a from t group by a.@", "create table @ (a int)", "create table t (@ int)", "create table t (a int, primary key (@))", "create table t (a int, primary key (a, @))",
		"create log on @", "create view @ refresh fast as select a from t", "drop table @", "drop log on @", "drop view @", "insert into @ values (1)", "delete from @", "update @ set a = 1", "update t set @ = 1",
		"refresh @", "refresh @ fast", "purge log on @", "show @",
	}
	operands := []string{"select @ from t", "select sum(@) from t", "select a from t where @ = 1", "select a from t where 1 = @", "select a from t where @ is null", "update t set a = @"}
	taken := strings.Fields("create drop table log on off view refresh as insert into values delete from where update set fast complete force nested purge rewrite policy enforced tolerated show " +
		"select distinct group by union all and or not is count sum min max int bool text primary key")
	for _, p := range append(names, operands...) {
		for _, name := range []string{"a", "_", "t_1", "abcdefghijklmnop", "selects", "x2"} {
			if _, err := Parse(strings.ReplaceAll(p, "@", name), 0); err != api.OK {
				t.Errorf("Parse(%q) with %s: %d", p, name, err)
			}
		}
		for _, name := range append(taken, "abcdefghijklmnopq", "(", ")", "", "*") {
			refused(t, strings.ReplaceAll(p, "@", name), 1, api.ErrSyntax)
		}
	}
	for _, p := range names {
		for _, value := range []string{"null", "true", "false", "'a'", "1", "0", "-1"} {
			refused(t, strings.ReplaceAll(p, "@", value), 1, api.ErrSyntax)
		}
	}
}

// TestExpressions holds how + - and * go together, and what is a value, a column, an opposite.
func TestExpressions(t *testing.T) {
	a, b, c, d := col("a"), col("b"), col("c"), col("d")
	for _, w := range []struct {
		s     string
		depth int
		want  api.Expr
	}{
		{"a", 0, a},
		{"t.a", 0, of("t", "a")},
		{"t . a", 0, of("t", "a")},
		{"null", 0, val(nothing())},
		{"true", 0, val(truth(1))},
		{"false", 0, val(truth(0))},
		{"''", 0, val(text(""))},
		{"'it''s'", 0, val(text("it's"))},
		{"'null'", 0, val(text("null"))},
		{"'('", 0, val(text("("))},
		{"0", 0, n(0)},
		{"-0", 0, n(0)},
		{"-5", 0, n(-5)},
		{"-  5", 0, n(-5)},
		{"a + b", 0, calc(api.EAdd, a, b)},
		{"a - b", 0, calc(api.ESub, a, b)},
		{"a * b", 0, calc(api.EMul, a, b)},
		{"a + b + c", 0, calc(api.EAdd, calc(api.EAdd, a, b), c)},
		{"a - b + c", 0, calc(api.EAdd, calc(api.ESub, a, b), c)},
		{"a + b - c - d", 0, calc(api.ESub, calc(api.ESub, calc(api.EAdd, a, b), c), d)},
		{"a * b * c * d", 0, calc(api.EMul, calc(api.EMul, calc(api.EMul, a, b), c), d)},
		{"a + b * c", 0, calc(api.EAdd, a, calc(api.EMul, b, c))},
		{"a * b + c", 0, calc(api.EAdd, calc(api.EMul, a, b), c)},
		{"a * b - c * d", 0, calc(api.ESub, calc(api.EMul, a, b), calc(api.EMul, c, d))},
		{"(a)", 1, a},
		{"((a))", 2, a},
		{"(a + b) * c", 1, calc(api.EMul, calc(api.EAdd, a, b), c)},
		{"a * (b + c)", 1, calc(api.EMul, a, calc(api.EAdd, b, c))},
		{"a - (b - c)", 1, calc(api.ESub, a, calc(api.ESub, b, c))},
		{"(a - b) - c", 1, calc(api.ESub, calc(api.ESub, a, b), c)},
		{"a * (b * c)", 1, calc(api.EMul, a, calc(api.EMul, b, c))},
		{"(a) + (b) + (c)", 1, calc(api.EAdd, calc(api.EAdd, a, b), c)},
		{"-a", 1, calc(api.ENeg, a)},
		{"- a", 1, calc(api.ENeg, a)},
		{"-t.a", 1, calc(api.ENeg, of("t", "a"))},
		{"-null", 1, calc(api.ENeg, val(nothing()))},
		{"-'x'", 1, calc(api.ENeg, val(text("x")))},
		{"-true", 1, calc(api.ENeg, val(truth(1)))},
		{"-(5)", 2, calc(api.ENeg, n(5))},
		{"-(-5)", 2, calc(api.ENeg, n(-5))},
		{"(-5)", 1, n(-5)},
		{"- -5", 1, calc(api.ENeg, n(-5))},
		{"--5", 1, calc(api.ENeg, n(-5))},
		{"---5", 2, calc(api.ENeg, calc(api.ENeg, n(-5)))},
		{"--a", 2, calc(api.ENeg, calc(api.ENeg, a))},
		{"a - -5", 0, calc(api.ESub, a, n(-5))},
		{"a--5", 0, calc(api.ESub, a, n(-5))},
		{"a - 5", 0, calc(api.ESub, a, n(5))},
		{"a -5", 0, calc(api.ESub, a, n(5))},
		{"5 -5", 0, calc(api.ESub, n(5), n(5))},
		{"-5 -5", 0, calc(api.ESub, n(-5), n(5))},
		{"a - - -5", 1, calc(api.ESub, a, calc(api.ENeg, n(-5)))},
		{"a - -b", 1, calc(api.ESub, a, calc(api.ENeg, b))},
		{"a * -5", 0, calc(api.EMul, a, n(-5))},
		{"a + -5 * b", 0, calc(api.EAdd, a, calc(api.EMul, n(-5), b))},
		{"-5 * a", 0, calc(api.EMul, n(-5), a)},
		{"-a * b", 1, calc(api.EMul, calc(api.ENeg, a), b)},
		{"-a + b", 1, calc(api.EAdd, calc(api.ENeg, a), b)},
		{"-(a + b)", 2, calc(api.ENeg, calc(api.EAdd, a, b))},
		{"a * -b * c", 1, calc(api.EMul, calc(api.EMul, a, calc(api.ENeg, b)), c)},
		{"-a + -b", 1, calc(api.EAdd, calc(api.ENeg, a), calc(api.ENeg, b))},
		{"(-(-(a)))", 5, calc(api.ENeg, calc(api.ENeg, a))},
	} {
		item := asked(api.Select{Items: items(w.want), From: from("t")})
		forms := []func(e string) (string, api.Stmt){
			func(e string) (string, api.Stmt) { return "select " + e + " from t", item },
			func(e string) (string, api.Stmt) {
				return "update t set a=" + e, api.Stmt{Kind: api.SUpdate, Name: "t", Sets: []api.Set{{Name: "a", E: w.want}}}
			},
			func(e string) (string, api.Stmt) {
				return "select sum(" + e + ")from t", asked(api.Select{Items: []api.Item{{Agg: api.ASum, E: w.want}}, From: from("t")})
			},
		}
		for _, form := range forms {
			s, want := form(w.s)
			read(t, s, w.depth, want)
			if w.depth > 0 {
				refused(t, s, w.depth-1, api.ErrResource)
			}
			s, want = form("(" + w.s + ")")
			just(t, s, w.depth+1, want)
		}
	}
}

// TestGreatNumbers holds that a number is at most 2^63 - 1, and behind its own - at most 2^63.
func TestGreatNumbers(t *testing.T) {
	const most, more = "9223372036854775807", "9223372036854775808"
	in := func(s string) string { return "insert into t values (" + s + ")" }
	row := func(n int) api.Stmt {
		return api.Stmt{Kind: api.SInsert, Name: "t", Rows: [][]api.Value{{num(n)}}}
	}
	read(t, in(most), 0, row(math.MaxInt64))
	read(t, in("-"+most), 0, row(-math.MaxInt64))
	read(t, in("-"+more), 0, row(math.MinInt64))
	read(t, in("- "+more), 0, row(math.MinInt64))
	refused(t, in(more), 0, api.ErrSyntax)
	refused(t, in("--"+more), 9, api.ErrSyntax)

	least := val(num(math.MinInt64))
	set := func(e api.Expr) api.Stmt {
		return api.Stmt{Kind: api.SUpdate, Name: "t", Sets: []api.Set{{Name: "a", E: e}}}
	}
	read(t, "update t set a = "+most, 0, set(n(math.MaxInt64)))
	read(t, "update t set a = -"+more, 0, set(least))
	just(t, "update t set a = --"+more, 1, set(calc(api.ENeg, least)))
	just(t, "update t set a = -(-"+more+")", 2, set(calc(api.ENeg, least)))
	read(t, "update t set a = b - "+most, 0, set(calc(api.ESub, col("b"), n(math.MaxInt64))))
	read(t, "update t set a = b - -"+more, 0, set(calc(api.ESub, col("b"), least)))
	read(t, "update t set a = b * -"+more+" - 1", 0, set(calc(api.ESub, calc(api.EMul, col("b"), least), n(1))))
	for _, e := range []string{more, "(" + more + ")", "-(" + more + ")", "b - " + more, "b-" + more, "b + " + more, "-b - " + more, "-" + more + " - " + more, "(b) - " + more} {
		refused(t, "update t set a = "+e, 9, api.ErrSyntax)
	}

	read(t, "delete from t where a = "+most, 0, api.Stmt{Kind: api.SDelete, Name: "t", Where: comp(col("a"), api.OpEq, n(math.MaxInt64))})
	read(t, "delete from t where -"+more+"< a", 0, api.Stmt{Kind: api.SDelete, Name: "t", Where: comp(least, api.OpLt, col("a"))})
	refused(t, "delete from t where a = "+more, 9, api.ErrSyntax)
	refused(t, "delete from t where "+more+" = a", 9, api.ErrSyntax)
}

// TestConditions holds what is compared, and how not, and, or and brackets go together.
func TestConditions(t *testing.T) {
	x, y, z, w := is("x", 1), is("y", 2), is("z", 3), is("w", 4)
	const X, Y, Z, W = "x = 1", "y = 2", "z = 3", "w = 4"
	not := func(c api.Cond) api.Cond { return cond(api.CNot, c) }
	some, none := api.Cond{Kind: api.CSome, L: col("a")}, api.Cond{Kind: api.CNull, L: col("a")}
	for _, l := range []struct {
		s     string
		depth int
		want  api.Cond
	}{
		{X, 0, x},
		{"a = b", 0, comp(col("a"), api.OpEq, col("b"))},
		{"a <> b", 0, comp(col("a"), api.OpNe, col("b"))},
		{"a < b", 0, comp(col("a"), api.OpLt, col("b"))},
		{"a <= b", 0, comp(col("a"), api.OpLe, col("b"))},
		{"a > b", 0, comp(col("a"), api.OpGt, col("b"))},
		{"a >= b", 0, comp(col("a"), api.OpGe, col("b"))},
		{"a<>b", 0, comp(col("a"), api.OpNe, col("b"))},
		{"a<=-1", 0, comp(col("a"), api.OpLe, n(-1))},
		{"a>=-1", 0, comp(col("a"), api.OpGe, n(-1))},
		{"a<-1", 0, comp(col("a"), api.OpLt, n(-1))},
		{"-1 = - 2", 0, comp(n(-1), api.OpEq, n(-2))},
		{"t.a = u . b", 0, comp(of("t", "a"), api.OpEq, of("u", "b"))},
		{"null = true", 0, comp(val(nothing()), api.OpEq, val(truth(1)))},
		{"'x' > false", 0, comp(val(text("x")), api.OpGt, val(truth(0)))},
		{"a is null", 0, none},
		{"a is not null", 0, some},
		{"t.a is null", 0, api.Cond{Kind: api.CNull, L: of("t", "a")}},
		{"null is null", 0, api.Cond{Kind: api.CNull, L: val(nothing())}},
		{"'x' is not null", 0, api.Cond{Kind: api.CSome, L: val(text("x"))}},
		{"-5 is null", 0, api.Cond{Kind: api.CNull, L: n(-5)}},
		{"not a is null", 1, not(none)},
		{"not a is not null", 1, not(some)},
		{"not not a is not null", 2, not(not(some))},
		{"not " + X, 1, not(x)},
		{"not not not " + X, 3, not(not(not(x)))},
		{X + " and " + Y, 0, cond(api.CAnd, x, y)},
		{X + " or " + Y, 0, cond(api.COr, x, y)},
		{X + " and " + Y + " and " + Z, 0, cond(api.CAnd, x, y, z)},
		{X + " or " + Y + " or " + Z + " or " + W, 0, cond(api.COr, x, y, z, w)},
		{X + " or " + Y + " and " + Z, 0, cond(api.COr, x, cond(api.CAnd, y, z))},
		{X + " and " + Y + " or " + Z, 0, cond(api.COr, cond(api.CAnd, x, y), z)},
		{X + " and " + Y + " or " + Z + " and " + W, 0, cond(api.COr, cond(api.CAnd, x, y), cond(api.CAnd, z, w))},
		{X + " or " + Y + " and " + Z + " or " + W, 0, cond(api.COr, x, cond(api.CAnd, y, z), w)},
		{"not " + X + " and " + Y, 1, cond(api.CAnd, not(x), y)},
		{"not " + X + " or not " + Y, 1, cond(api.COr, not(x), not(y))},
		{X + " and not " + Y + " or " + Z, 1, cond(api.COr, cond(api.CAnd, x, not(y)), z)},
		{X + " and a is not null and " + Y, 0, cond(api.CAnd, x, some, y)},
		{"(" + X + ")", 1, x},
		{"((" + X + "))", 2, x},
		{"(a is null)", 1, none},
		{"not (" + X + ")", 2, not(x)},
		{"(not " + X + ")", 2, not(x)},
		{"(" + X + " and " + Y + ")", 1, cond(api.CAnd, x, y)},
		{"(" + X + ") and (" + Y + ")", 1, cond(api.CAnd, x, y)},
		{"(" + X + " or " + Y + ") and " + Z, 1, cond(api.CAnd, cond(api.COr, x, y), z)},
		{X + " and (" + Y + " or " + Z + ")", 1, cond(api.CAnd, x, cond(api.COr, y, z))},
		{"(" + X + " and " + Y + ") and " + Z, 1, cond(api.CAnd, cond(api.CAnd, x, y), z)},
		{X + " and (" + Y + " and " + Z + ")", 1, cond(api.CAnd, x, cond(api.CAnd, y, z))},
		{X + " or (" + Y + " or " + Z + ")", 1, cond(api.COr, x, cond(api.COr, y, z))},
		{"(" + X + " or " + Y + ") or " + Z, 1, cond(api.COr, cond(api.COr, x, y), z)},
		{X + " or (" + Y + " and " + Z + ")", 1, cond(api.COr, x, cond(api.CAnd, y, z))},
		{"not (" + X + " and " + Y + ") or " + Z, 2, cond(api.COr, not(cond(api.CAnd, x, y)), z)},
		{"not (not (" + X + "))", 4, not(not(x))},
		{"((" + X + ") or ((" + Y + ")))", 3, cond(api.COr, x, y)},
	} {
		forms := []func(c string) (string, api.Stmt){
			func(c string) (string, api.Stmt) { return "select a from t where " + c, where(l.want) },
			func(c string) (string, api.Stmt) {
				return "delete from t where " + c, api.Stmt{Kind: api.SDelete, Name: "t", Where: l.want}
			},
			func(c string) (string, api.Stmt) {
				return "update t set a = 1 where " + c, api.Stmt{Kind: api.SUpdate, Name: "t", Sets: []api.Set{{Name: "a", E: n(1)}}, Where: l.want}
			},
		}
		for _, form := range forms {
			s, want := form(l.s)
			read(t, s, l.depth, want)
			if l.depth > 0 {
				refused(t, s, l.depth-1, api.ErrResource)
			}
			s, want = form("(" + l.s + ")")
			just(t, s, l.depth+1, want)
		}
	}
}

// TestNoConditions holds that brackets around an operand, and much else, are no condition.
func TestNoConditions(t *testing.T) {
	for _, c := range []string{
		"a", "1", "true", "null", "not", "not a", "(a)", "(a) = 1", "a = (1)", "(a) is null", "((a) = 1)", "(a + 1) = 2", "a + 1 = 2", "a = 1 + 1", "a = b * 2", "-a = 1", "a = -b", "a = -(5)", "a = --5", "-(a = 1)",
		"a = b = c", "a < b < c", "a == b", "a > = b", "a < > b", "a =< b", "a => b", "a >< b", "a = ", "= a", "a is", "a is not", "a is 1", "a is true", "a is not not null", "a is null null", "a not null", "a is null is null",
		"a = 1 and", "and a = 1", "a = 1 or or a = 1", "a = 1 and or a = 1", "a = 1 not", "a = 1 not a = 1", "a = 1 a = 1", "a = 1, a = 1", "a = not b", "a not = b", "not and a = 1",
		"()", "(a = 1", "a = 1)", "((a = 1)", "(a = 1))", "(a = 1) = (a = 1)", "(a = 1) is null", "(a = 1) (a = 1)", "(a = 1 and) a = 1", "a (= 1)", "sum(a) = 1", "a = sum(a)", "a in (1)", "a = 1 is null", "(select a from t) = 1",
	} {
		for _, s := range []string{"select a from t where ", "delete from t where ", "update t set a = 1 where "} {
			refused(t, s+c, 9, api.ErrSyntax)
		}
	}
}

// TestDepth holds P9.2: each bracket, not and sign - of a factor is one deeper, and what stands beside one another isn't.
func TestDepth(t *testing.T) {
	for _, k := range []int{1, 2, 4, 20, 64, 100} {
		shut := strings.Repeat(")", k)
		just(t, "select a from t where "+strings.Repeat("(", k)+"a = 1"+shut, k, where(is("a", 1)))
		just(t, "select "+strings.Repeat("(", k)+"a"+shut+" from t", k, asked(plain()))
		c, e := is("a", 1), col("a")
		for range k {
			c, e = cond(api.CNot, c), calc(api.ENeg, e)
		}
		just(t, "select a from t where "+strings.Repeat("not ", k)+"a = 1", k, where(c))
		just(t, "select a from t where "+strings.Repeat("not (", k)+"a = 1"+shut, 2*k, where(c))
		neg := asked(api.Select{Items: items(e), From: from("t")})
		just(t, "select "+strings.Repeat("-", k)+"a from t", k, neg)
		just(t, "select "+strings.Repeat("-(", k)+"a"+shut+" from t", 2*k, neg)
		just(t, "select "+strings.Repeat("- ( -", k)+"5"+shut+" from t", 3*k-1, negs(2*k-1, n(-5)))
	}
	beside := plain()
	beside.Items = items(calc(api.EAdd, calc(api.EAdd, col("a"), col("a")), calc(api.ENeg, col("a"))), calc(api.ENeg, col("a")))
	beside.Where = cond(api.CAnd, is("a", 1), cond(api.CNot, is("a", 1)), is("a", 1))
	just(t, "select (a) + (a) + -a, -a from t where (a = 1) and not a = 1 and (a = 1) union all select (a) from t", 1, asked(beside, plain()))
}

// negs is a select of e behind so many signs -.
func negs(n int, e api.Expr) api.Stmt {
	for range n {
		e = calc(api.ENeg, e)
	}
	return asked(api.Select{Items: items(e), From: from("t")})
}

// TestNoDepth holds that no other brackets are deeper, nor a value's -, nor the not of is not null and of a column.
func TestNoDepth(t *testing.T) {
	for _, depth := range []int{math.MinInt, -64, -1, 0} {
		for _, s := range []string{"create table t (a int not null, primary key (a))", "insert into t values (-1), (1)", "select count(*), count(a), sum(a), min(-1), max(a - 1) from t where a is not null and -1 = a", "update t set a = -1"} {
			if _, err := Parse(s, depth); err != api.OK {
				t.Errorf("Parse(%q, %d): %d", s, depth, err)
			}
		}
		for _, s := range []string{"select (a) from t", "select -a from t", "select sum((a)) from t", "select a from t where (a = 1)", "select a from t where not a = 1", "delete from t where not a is not null", "update t set a = --1"} {
			refused(t, s, depth, api.ErrResource)
		}
	}
}

// TestFirstFault holds P9.1: of several faults the first one from the left is told.
func TestFirstFault(t *testing.T) {
	long := "'" + strings.Repeat("x", 65) + "'"
	for _, l := range []struct {
		s    string
		want api.Errno
	}{
		{"select ((a from t", api.ErrResource},
		{"select (a b) from t where ((a = 1))", api.ErrSyntax},
		{"select ((b c)) from t", api.ErrResource},
		{"select (a, ((b", api.ErrSyntax},
		{"select -(from", api.ErrResource},
		{"select --from", api.ErrResource},
		{"select - from", api.ErrSyntax},
		{"select -" + long + " from", api.ErrLong},
		{"select --" + long + " from", api.ErrResource},
		{"select ((" + long, api.ErrResource},
		{"select " + long + ", ((a", api.ErrLong},
		{"select " + long + " " + long, api.ErrLong},
		{"select a " + long, api.ErrSyntax},
		{long, api.ErrSyntax},
		{"show " + long, api.ErrSyntax},
		{"select a as " + long + " from t", api.ErrSyntax},
		{"insert into t values (-" + long + ")", api.ErrSyntax},
		{"select a from t where a = -" + long, api.ErrSyntax},
		{"select a from t where a is " + long, api.ErrSyntax},
		{"select a from t where (" + long + ") = 1", api.ErrLong},
		{"select a from t where (a) = " + long, api.ErrSyntax},
		{"select a from t where not not", api.ErrResource},
		{"select a from t where not and not (a = 1)", api.ErrSyntax},
		{"insert into t values (" + times(9, "1") + "), (" + long + ")", api.ErrLong},
		{"insert into t values (" + times(9, "1") + ") x", api.ErrLong},
		{"insert into t values (" + times(9, "1") + ",)", api.ErrSyntax},
		{"insert into t values (" + times(9, "1"), api.ErrSyntax},
		{"insert into t values " + times(17, "(1)") + " x", api.ErrLong},
		{"insert into t values " + times(17, "(1)") + ", x", api.ErrSyntax},
		{"insert into t values " + times(17, "(1)") + ",", api.ErrSyntax},
		{"insert into t values " + times(17, "(1)") + ", (" + times(9, "1") + "), x", api.ErrLong},
		{"create table t (" + times(9, "a int") + ") x", api.ErrLong},
		{"create table t (" + times(9, "a int") + " x)", api.ErrSyntax},
		{"create table t (" + times(9, "a int"), api.ErrSyntax},
		{"create table t (" + times(9, "a int") + ", primary key (a) x", api.ErrSyntax},
		{"create table t (a int, primary key (" + times(9, "a") + ")) x", api.ErrLong},
		{"create table t (a int, primary key (" + times(9, "a") + ") x", api.ErrSyntax},
		{"create table t (a int) ((", api.ErrSyntax},
		{"select " + times(9, "a") + " from t x", api.ErrLong},
		{"select " + times(9, "a") + " from", api.ErrSyntax},
		{"select " + times(9, "a") + " from t where ((a", api.ErrResource},
		{"select " + times(9, "a") + " from t where x", api.ErrSyntax},
		{"select " + times(9, "a") + " from t group a", api.ErrSyntax},
		{"select " + times(9, "a") + " from t union x", api.ErrLong},
		{"select " + times(9, "a") + " from t, ", api.ErrSyntax},
		{"select a from " + times(4, "t") + " )", api.ErrLong},
		{"select a from " + times(4, "t") + " where", api.ErrSyntax},
		{"select a from t group by " + times(5, "a") + " union", api.ErrLong},
		{"select a from t group by " + times(5, "a") + ", 1", api.ErrSyntax},
		{"select a from t group by " + times(5, "a") + " where ((a", api.ErrLong},
		{unions(5) + " )", api.ErrLong},
		{unions(5) + " union", api.ErrSyntax},
		{unions(5) + " union all select ((a", api.ErrResource},
		{unions(5) + " where", api.ErrSyntax},
		{"update t set " + times(9, "a = 1") + " x", api.ErrLong},
		{"update t set " + times(9, "a = 1") + ", x", api.ErrSyntax},
		{"update t set " + times(9, "a = 1") + " where", api.ErrLong},
		{"update t set " + times(9, "a = 1") + " where ((a = 1))", api.ErrLong},
		{"update t set " + times(9, "a = 1") + " + ((1", api.ErrResource},
		{"update t set " + times(8, "a = 1") + " where ((a = 1))", api.ErrResource},
		{"update t set " + times(8, "a = 1") + ", a = " + long + " x", api.ErrLong},
		{"create view v refresh fast as " + unions(5) + " x", api.ErrLong},
		{"create view v refresh x as " + unions(5), api.ErrSyntax},
		{"create view v as " + unions(5), api.ErrSyntax},
	} {
		refused(t, l.s, 1, l.want)
	}
}

// unions is so many selects.
func unions(n int) string {
	return strings.TrimSuffix(strings.Repeat("select a from t union all ", n), " union all ")
}

// TestTexts holds P9.2: a text has at most MaxText bytes, wherever it may stand; what its two signs are counts as one.
func TestTexts(t *testing.T) {
	for _, piece := range []struct{ written, s string }{{"x", "x"}, {"''", "'"}, {" ", " "}, {"\xff", "\xff"}} {
		most, more := "'"+strings.Repeat(piece.written, 64)+"'", "'"+strings.Repeat(piece.written, 65)+"'"
		v := text(strings.Repeat(piece.s, 64))
		for _, l := range []struct {
			s    string
			want api.Stmt
		}{
			{"insert into t values (@)", api.Stmt{Kind: api.SInsert, Name: "t", Rows: [][]api.Value{{v}}}},
			{"insert into t values (1), (1, @, 1)", api.Stmt{Kind: api.SInsert, Name: "t", Rows: [][]api.Value{{num(1)}, {num(1), v, num(1)}}}},
			{"select @ from t", asked(api.Select{Items: items(val(v)), From: from("t")})},
			{"select min(@) from t", asked(api.Select{Items: []api.Item{{Agg: api.AMin, E: val(v)}}, From: from("t")})},
			{"select -(a + @) from t", asked(api.Select{Items: items(calc(api.ENeg, calc(api.EAdd, col("a"), val(v)))), From: from("t")})},
			{"update t set a = @", api.Stmt{Kind: api.SUpdate, Name: "t", Sets: []api.Set{{Name: "a", E: val(v)}}}},
			{"select a from t where @ = a", where(comp(val(v), api.OpEq, col("a")))},
			{"select a from t where a <> @", where(comp(col("a"), api.OpNe, val(v)))},
			{"select a from t where not @ is null", where(cond(api.CNot, api.Cond{Kind: api.CNull, L: val(v)}))},
			{"delete from t where a < @", api.Stmt{Kind: api.SDelete, Name: "t", Where: comp(col("a"), api.OpLt, val(v))}},
			{"update t set a = 1 where a = @", api.Stmt{Kind: api.SUpdate, Name: "t", Sets: []api.Set{{Name: "a", E: n(1)}}, Where: comp(col("a"), api.OpEq, val(v))}},
			{"create view v refresh force as select @ from t", api.Stmt{Kind: api.SView, Name: "v", Mode: api.MForce, Query: query(api.Select{Items: items(val(v)), From: from("t")})}},
		} {
			read(t, strings.ReplaceAll(l.s, "@", most), 2, l.want)
			refused(t, strings.ReplaceAll(l.s, "@", more), 2, api.ErrLong)
			refused(t, strings.ReplaceAll(l.s, "@", more)+" x", 2, api.ErrLong)
		}
	}
}

// TestMostOfRows holds P9.2 of tuples and rows.
func TestMostOfRows(t *testing.T) {
	eight := []api.Value{num(1), num(1), num(1), num(1), num(1), num(1), num(1), num(1)}
	tuple := "(" + times(8, "1") + ")"
	var rows [][]api.Value
	for k := 1; k <= 20; k++ {
		rows = append(rows, eight)
		s := "insert into t values " + times(k, tuple)
		if k <= 16 {
			read(t, s, 0, api.Stmt{Kind: api.SInsert, Name: "t", Rows: rows})
		} else {
			refused(t, s, 0, api.ErrLong)
		}
		refused(t, s+", (1, "+times(8, "1")+")", 0, api.ErrLong)
	}
	for k := 1; k <= 12; k++ {
		for _, s := range []string{"(" + times(k, "null") + ")", "(1), (" + times(k, "-1") + ")", "(" + times(k, "'x'") + "), (1)"} {
			if _, err := Parse("insert into t values "+s, 0); (err == api.OK) != (k <= 8) || k > 8 && err != api.ErrLong {
				t.Errorf("a tuple of %d values: %d", k, err)
			}
		}
	}
}

// TestMostOfTables holds P9.2 of a table's columns and its key's names.
func TestMostOfTables(t *testing.T) {
	for cols := 0; cols <= 10; cols++ {
		for keys := 0; keys <= 10; keys++ {
			var parts []string
			want := api.Stmt{Kind: api.STable, Name: "t"}
			for i := range cols {
				want.Cols = append(want.Cols, api.Column{Name: "c" + strconv.Itoa(i), Type: api.TInt})
				parts = append(parts, "c"+strconv.Itoa(i)+" int")
			}
			if keys > 0 {
				parts = append(parts, "primary key ("+times(keys, "a")+")")
			}
			for range keys {
				want.Keys = append(want.Keys, "a")
			}
			s := "create table t (" + strings.Join(parts, ", ") + ")"
			switch {
			case cols > 8 || keys > 8:
				refused(t, s, 0, api.ErrLong)
				refused(t, s+" x", 0, api.ErrLong)
				refused(t, s[:len(s)-1], 0, api.ErrSyntax)
			case cols == 0:
				refused(t, s, 0, api.ErrSyntax)
			default:
				read(t, s, 0, want)
			}
		}
	}
	for _, s := range []string{"(primary key (a), a int)", "(primary key (" + times(9, "a") + "), a int)", "(primary key (a), primary key (a))", "(primary key (a),)", "(primary key a)", "(primary key)", "(primary)", "(, primary key (a))", "(,)", "", "(a int, primary int)"} {
		refused(t, "create table t "+s, 0, api.ErrSyntax)
	}
}

// TestMostOfSelects holds P9.2 of items, sources, columns of a group, and selects.
func TestMostOfSelects(t *testing.T) {
	const a, a7, a8, t1, t3 = "a", "a, a, a, a, a, a, a", "a, a, a, a, a, a, a, a", "t", "t, t, t"
	build := func(its, srcs, grp int) (string, api.Select) {
		var s api.Select
		for range its {
			s.Items = append(s.Items, api.Item{E: col("a")})
		}
		for range srcs {
			s.From = append(s.From, api.Source{Name: "t", As: "t"})
		}
		for range grp {
			s.Group = append(s.Group, col("a"))
		}
		written := "select " + times(its, "a") + " from " + times(srcs, "t")
		if grp > 0 {
			written += " group by " + times(grp, "a")
		}
		return written, s
	}
	for its := 1; its <= 10; its++ {
		for srcs := 1; srcs <= 5; srcs++ {
			for grp := 0; grp <= 6; grp++ {
				s, want := build(its, srcs, grp)
				for _, l := range []struct {
					s    string
					want api.Stmt
				}{
					{s, asked(want)},
					{"select a from t union all " + s, asked(plain(), want)},
					{s + " union all select a from t", asked(want, plain())},
					{"create view v refresh force as " + s, api.Stmt{Kind: api.SView, Name: "v", Mode: api.MForce, Query: query(want)}},
				} {
					if its <= 8 && srcs <= 3 && grp <= 4 {
						read(t, l.s, 0, l.want)
					} else {
						refused(t, l.s, 0, api.ErrLong)
					}
				}
			}
		}
	}
	var l []api.Select
	for k := 1; k <= 7; k++ {
		l = append(l, plain())
		s := unions(k)
		if k <= 4 {
			read(t, s, 0, asked(l...))
			read(t, "create view v refresh fast as "+s, 0, api.Stmt{Kind: api.SView, Name: "v", Mode: api.MFast, Query: query(l...)})
		} else {
			refused(t, s, 0, api.ErrLong)
			refused(t, "create view v refresh fast as "+s, 0, api.ErrLong)
		}
	}
}

// TestMostOfSets holds P9.2 of an update's new values.
func TestMostOfSets(t *testing.T) {
	var l []api.Set
	for k := 1; k <= 10; k++ {
		l = append(l, api.Set{Name: "a", E: calc(api.EAdd, col("a"), n(1))})
		s := "update t set " + times(k, "a = a + 1")
		if k <= 8 {
			read(t, s, 0, api.Stmt{Kind: api.SUpdate, Name: "t", Sets: l})
			read(t, s+" where a = 1", 0, api.Stmt{Kind: api.SUpdate, Name: "t", Sets: l, Where: is("a", 1)})
		} else {
			refused(t, s, 0, api.ErrLong)
			refused(t, s+" where a = 1", 0, api.ErrLong)
		}
	}
}

// TestItems holds what items are: expressions and aggregates, with as and without; and sources so.
func TestItems(t *testing.T) {
	s := api.Select{
		Items: []api.Item{
			{E: col("a")}, {E: col("a"), As: "b"}, {E: calc(api.EAdd, of("t", "a"), n(1)), As: "c"}, {Agg: api.ACount}, {Agg: api.ACount, As: "n"},
			{Agg: api.ASome, E: col("a")}, {Agg: api.ASome, E: calc(api.EMul, col("a"), n(2)), As: "m"}, {E: val(nothing()), As: "x"},
		},
		From: []api.Source{{Name: "t", As: "t"}, {Name: "u", As: "w"}, {Name: "t", As: "t"}},
	}
	read(t, "select a, a as b, t.a + 1 as c, count(*), count(*) as n, count(a), count(a * 2) as m, null as x from t, u as w, t as t", 0, asked(s))
	s.Items = []api.Item{{Agg: api.ASum, E: col("a")}, {Agg: api.AMin, E: of("t", "a"), As: "l"}, {Agg: api.AMax, E: calc(api.ENeg, col("a")), As: "g"}}
	s.Distinct = true
	s.Group = []api.Expr{col("a"), of("t", "b"), of("x", "a"), col("a")}
	s.From = []api.Source{{Name: "t", As: "u"}}
	read(t, "select distinct sum(a), min(t.a) as l, max(-a) as g from t as u group by a, t.b, x . a, a", 1, asked(s))
	s.Where = cond(api.COr, is("a", 1), api.Cond{Kind: api.CNull, L: col("a")})
	read(t, "select distinct sum(a), min(t.a) as l, max(-a) as g from t as u where a = 1 or a is null group by a, t.b, x . a, a", 1, asked(s))

	read(t, "select a, count(*) as n from t where a < 3 and not b is null group by a", 4, asked(api.Select{
		Items: []api.Item{{E: col("a")}, {Agg: api.ACount, As: "n"}}, From: from("t"), Group: []api.Expr{col("a")},
		Where: cond(api.CAnd, comp(col("a"), api.OpLt, n(3)), cond(api.CNot, api.Cond{Kind: api.CNull, L: col("b")})),
	}))
	refused(t, "select a from t where ((((((a = 1))))))", 4, api.ErrResource)
}

// TestBlanks holds P9.3: blanks between words, ahead and behind change nothing.
func TestBlanks(t *testing.T) {
	for _, w := range wholes() {
		read(t, "   "+strings.ReplaceAll(w.s, " ", "     ")+"  ", 0, w.want)
		tight := w.s
		for _, sign := range []string{"(", ")", ",", "=", "-"} {
			tight = strings.ReplaceAll(strings.ReplaceAll(tight, " "+sign, sign), sign+" ", sign)
		}
		read(t, tight, 0, w.want)
		for _, sign := range []string{"(", ")", ",", "=", "-"} {
			tight = strings.ReplaceAll(tight, sign, "   "+sign+"   ")
		}
		read(t, tight, 0, w.want)
	}
	e := calc(api.ESub, calc(api.EMul, of("t", "a"), n(-1)), calc(api.ENeg, col("b")))
	c := cond(api.CAnd, comp(of("t", "a"), api.OpLe, n(-1)), comp(col("b"), api.OpNe, val(text("x"))))
	want := asked(api.Select{Items: []api.Item{{E: e}, {Agg: api.ACount}, {Agg: api.ASum, E: col("a")}}, From: from("t"), Where: c})
	just(t, "select t.a*-1--b,count(*),sum(a)from t where(t.a<=-1 and b<>'x')", 1, want)
	just(t, "  select  t . a  *  -  1  -  -  b , count ( * ) , sum ( a ) from  t  where ( t . a  <=  -  1  and  b  <>  'x' )  ", 1, want)
}
