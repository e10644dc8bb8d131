package bind

import (
	"math"
	"reflect"
	"slices"
	"strings"
	"testing"

	"belvedere/api"
)

var (
	a, b  = named("a"), named("b") // of t a number and a text
	z     = named("z")             // of no one
	unit  = val(num(1))
	words = val(text("x"))
	yes   = val(truth(1))
	null  = val(nothing)
	past  = val(text(strings.Repeat("x", api.MaxText+1)))
	wrong = val(api.Value{Kind: api.TBool, N: 2})
	ends  = []int{math.MinInt, math.MinInt + 1, -2, -1, math.MaxInt - 1, math.MaxInt}
)

// told holds what an item of from, without an aggregate, is resolved to, or the error.
func told(t *testing.T, from string, e api.Expr, want api.Calc, kind int, err api.Errno) {
	t.Helper()
	s := one(t, "select 1 as it from "+from)
	s.Items[0].E = e
	p, cols, got := Query(queryOf(s), schemas())
	switch {
	case got != err:
		t.Errorf("%+v: error %d, want %d", e, got, err)
	case err != api.OK && (len(p.Parts) > 0 || len(cols) > 0):
		t.Errorf("%+v: %+v, %+v beside error %d", e, p, cols, err)
	case err == api.OK && !(reflect.DeepEqual(p.Parts[0].Outs, []api.Out{out("it", kind, want)}) && cols[0] == col("it", kind)):
		t.Errorf("%+v: %+v, %+v", e, p, cols)
	}
}

// TestColumn holds P18.1: a column is one of all the sources', or of those called Table, and none else.
func TestColumn(t *testing.T) {
	for _, c := range []struct {
		from        string
		table, name string
		at, kind    int
		err         api.Errno
	}{
		{"t", "", "a", 0, api.TInt, api.OK},
		{"t", "", "b", 1, api.TText, api.OK},
		{"t", "t", "b", 1, api.TText, api.OK},
		{"t", "u", "b", 0, 0, api.ErrName},
		{"t", "", "c", 0, 0, api.ErrName},
		{"t", "t", "c", 0, 0, api.ErrName},
		{"t", "", "", 0, 0, api.ErrName},
		{"t", "t", "", 0, 0, api.ErrName},
		{"t", "", "t", 0, 0, api.ErrName},
		{"t as x", "x", "b", 1, api.TText, api.OK},
		{"t as x", "t", "b", 0, 0, api.ErrName},
		{"t, u", "", "a", 0, 0, api.ErrMany},
		{"t, u", "t", "a", 0, api.TInt, api.OK},
		{"t, u", "u", "a", 2, api.TInt, api.OK},
		{"t, u", "", "b", 1, api.TText, api.OK},
		{"t, u", "", "c", 3, api.TBool, api.OK},
		{"t, u", "u", "b", 0, 0, api.ErrName},
		{"t, u", "t", "c", 0, 0, api.ErrName},
		{"t, u", "w", "a", 0, 0, api.ErrName},
		{"t as u, u as t", "t", "a", 2, api.TInt, api.OK},
		{"t as u, u as t", "u", "a", 0, api.TInt, api.OK},
		{"w, t, u", "", "c", 11, api.TBool, api.OK},
		{"w, t, u", "t", "a", 8, api.TInt, api.OK},
		{"w, t, u", "", "a", 0, 0, api.ErrMany},
		{"w, t, u", "w", "wh", 7, api.TInt, api.OK},
		{"t, w, u", "", "a", 0, 0, api.ErrMany},
		{"t, e, u", "", "c", 3, api.TBool, api.OK},
		{"t, t as x, t as y", "y", "b", 5, api.TText, api.OK},
		{"t, t as x, t as y", "", "b", 0, 0, api.ErrMany},
		{"d", "", "p", 0, 0, api.ErrMany},
		{"d", "d", "p", 0, 0, api.ErrMany},
		{"d", "t", "p", 0, 0, api.ErrName},
		{"d", "", "q", 1, api.TBool, api.OK},
		{"t, d", "", "p", 0, 0, api.ErrMany},
		{"t, d", "t", "p", 0, 0, api.ErrName},
		{"t, d, u", "u", "a", 5, api.TInt, api.OK},
		{"d, d as x", "", "q", 0, 0, api.ErrMany},
		{"d, d as x", "x", "q", 4, api.TBool, api.OK},
		{"d, d as x", "x", "p", 0, 0, api.ErrMany},
		{"o", "", "none", 0, api.TAny, api.OK},
		{"o", "", "four", 4, 4, api.OK},
		{"o", "", "below", 5, -1, api.OK},
	} {
		told(t, c.from, of(c.table, c.name), at(c.at), c.kind, c.err)
	}
}

// TestOddNames holds P18.1 of names that may be no names, and of sources called by nothing.
func TestOddNames(t *testing.T) {
	long := strings.Repeat("x", 100)
	l := []api.Schema{schema("", col("", api.TInt), col("A b", api.TText)), schema(long, col(long, api.TBool), col("\xff", api.TInt))}
	from := []api.Source{{Name: "", As: "y"}, {Name: long, As: ""}}
	for _, c := range []struct {
		table, name string
		at          int
		err         api.Errno
	}{{"", "", 0, api.OK}, {"y", "", 0, api.OK}, {"", "A b", 1, api.OK}, {"", long, 2, api.OK}, {"", "\xff", 3, api.OK}, {"y", "\xff", 0, api.ErrName}, {long, long, 0, api.ErrName}, {"", "a b", 0, api.ErrName}} {
		p, _, err := Query(queryOf(api.Select{From: from, Items: []api.Item{{E: of(c.table, c.name)}}}), l)
		if err != c.err || err == api.OK && !reflect.DeepEqual(p.Parts[0].Outs[0].E, at(c.at)) {
			t.Errorf("%q of %q: %+v, error %d", c.name, c.table, p, err)
		}
	}
}

// TestExpr holds P18.1: expressions and their types, from the left, with each error that they may have.
func TestExpr(t *testing.T) {
	add, neg := api.EAdd, api.ENeg
	plus := func(l ...api.Expr) api.Expr { return reckoned(add, l...) }
	less := func(e api.Expr) api.Expr { return reckoned(neg, e) }
	told(t, "t", unit, lit(num(1)), api.TInt, api.OK)
	told(t, "t", words, lit(text("x")), api.TText, api.OK)
	told(t, "t", yes, lit(truth(1)), api.TBool, api.OK)
	told(t, "t", null, lit(nothing), api.TAny, api.OK)
	told(t, "t", val(num(math.MinInt)), lit(num(math.MinInt)), api.TInt, api.OK)
	told(t, "t", less(null), calc(neg, lit(nothing)), api.TInt, api.OK)
	told(t, "t", less(a), calc(neg, at(0)), api.TInt, api.OK)
	told(t, "t", less(less(less(unit))), calc(neg, calc(neg, calc(neg, lit(num(1))))), api.TInt, api.OK)
	told(t, "o", less(named("none")), calc(neg, at(0)), api.TInt, api.OK)
	for _, kind := range []int{api.EAdd, api.ESub, api.EMul} {
		told(t, "t", reckoned(kind, a, unit), calc(kind, at(0), lit(num(1))), api.TInt, api.OK)
		told(t, "t", reckoned(kind, unit, a), calc(kind, lit(num(1)), at(0)), api.TInt, api.OK)
		told(t, "t", reckoned(kind, null, null), calc(kind, lit(nothing), lit(nothing)), api.TInt, api.OK)
		told(t, "t", reckoned(kind, reckoned(kind, a, a), less(null)), calc(kind, calc(kind, at(0), at(0)), calc(neg, lit(nothing))), api.TInt, api.OK)
	}
	for _, c := range []struct {
		e   api.Expr
		err api.Errno
	}{
		{past, api.ErrLong},
		{wrong, api.ErrArg},
		{val(api.Value{Kind: 4}), api.ErrArg},
		{val(api.Value{Kind: -1}), api.ErrArg},
		{val(api.Value{Kind: api.TAny, N: 1}), api.ErrArg},
		{val(api.Value{Kind: api.TInt, S: "1"}), api.ErrArg},
		{val(api.Value{Kind: api.TText, N: 1}), api.ErrArg},
		{api.Expr{}, api.ErrArg},
		{api.Expr{Kind: 7, Args: []api.Expr{a, a}}, api.ErrArg},
		{z, api.ErrName},
		{less(b), api.ErrType},
		{less(words), api.ErrType},
		{less(yes), api.ErrType},
		{less(z), api.ErrName},
		{less(past), api.ErrLong},
		{less(less(less(b))), api.ErrType},
		{reckoned(neg), api.ErrArg},
		{reckoned(neg, a, a), api.ErrArg},
		{reckoned(neg, z, z), api.ErrArg},
		{less(api.Expr{}), api.ErrArg},
	} {
		told(t, "t", c.e, api.Calc{}, 0, c.err)
	}
	for _, odd := range []api.Expr{named("truth"), named("words"), named("four"), named("below")} {
		told(t, "o", less(odd), api.Calc{}, 0, api.ErrType)
		told(t, "o", plus(named("none"), odd), api.Calc{}, 0, api.ErrType)
		told(t, "o", plus(odd, named("number")), api.Calc{}, 0, api.ErrType)
	}
	for _, kind := range ends {
		told(t, "t", reckoned(kind, a, a), api.Calc{}, 0, api.ErrArg)
		told(t, "t", reckoned(kind, z), api.Calc{}, 0, api.ErrArg)
		told(t, "t", api.Expr{Kind: kind, Name: "a"}, api.Calc{}, 0, api.ErrArg)
		told(t, "t", val(api.Value{Kind: kind}), api.Calc{}, 0, api.ErrArg)
		told(t, "t", val(num(kind)), lit(num(kind)), api.TInt, api.OK)
	}
}

// TestArgs holds P18.1: how many Args there are comes ahead of them, and each one's errors, and then its type, ahead of the next.
func TestArgs(t *testing.T) {
	for _, kind := range []int{api.EAdd, api.ESub, api.EMul} {
		for _, c := range []struct {
			args []api.Expr
			err  api.Errno
		}{
			{nil, api.ErrArg},
			{[]api.Expr{}, api.ErrArg},
			{[]api.Expr{a}, api.ErrArg},
			{[]api.Expr{a, a, a}, api.ErrArg},
			{[]api.Expr{z, b, past}, api.ErrArg},
			{[]api.Expr{z}, api.ErrArg},
			{[]api.Expr{z, past}, api.ErrName},
			{[]api.Expr{past, z}, api.ErrLong},
			{[]api.Expr{a, past}, api.ErrLong},
			{[]api.Expr{a, wrong}, api.ErrArg},
			{[]api.Expr{b, z}, api.ErrType},
			{[]api.Expr{z, b}, api.ErrName},
			{[]api.Expr{b, a}, api.ErrType},
			{[]api.Expr{a, b}, api.ErrType},
			{[]api.Expr{a, yes}, api.ErrType},
			{[]api.Expr{words, null}, api.ErrType},
			{[]api.Expr{b, b}, api.ErrType},
			{[]api.Expr{reckoned(kind, a, z), past}, api.ErrName},
			{[]api.Expr{reckoned(kind, a, b), past}, api.ErrType},
			{[]api.Expr{reckoned(kind, a, a), past}, api.ErrLong},
			{[]api.Expr{reckoned(kind), z}, api.ErrArg},
			{[]api.Expr{a, {}}, api.ErrArg},
			{[]api.Expr{b, {}}, api.ErrType},
			{[]api.Expr{{}, b}, api.ErrArg},
		} {
			told(t, "t", reckoned(kind, c.args...), api.Calc{}, 0, c.err)
		}
	}
}

// TestFieldsAside holds P18.1, P18.2: fields that a Kind has no use for don't count, and come to nothing.
func TestFieldsAside(t *testing.T) {
	noisy := func(e api.Expr) api.Expr {
		switch e.Kind {
		case api.EColumn:
			e.Val, e.Args = past.Val, []api.Expr{z, {}}
		case api.EValue:
			e.Table, e.Name, e.Args = "t", "z", []api.Expr{z}
		default:
			e.Table, e.Name, e.Val = "t", "z", wrong.Val
		}
		return e
	}
	told(t, "t", noisy(a), at(0), api.TInt, api.OK)
	told(t, "t", noisy(words), lit(text("x")), api.TText, api.OK)
	told(t, "t", noisy(reckoned(api.EMul, noisy(a), noisy(unit))), calc(api.EMul, at(0), lit(num(1))), api.TInt, api.OK)
	told(t, "t", noisy(reckoned(api.ENeg, noisy(null))), calc(api.ENeg, lit(nothing)), api.TInt, api.OK)
	rest := []api.Cond{{Kind: 9}, {}}
	asked(t, api.Cond{Op: 3, L: noisy(a), R: z, Args: rest}, api.Test{}, api.OK)
	asked(t, api.Cond{Kind: api.CNull, Op: 9, L: noisy(b), R: z, Args: rest}, api.Test{Kind: api.CNull, L: at(1)}, api.OK)
	asked(t, api.Cond{Kind: api.CSome, Op: 1, L: noisy(words), R: a, Args: rest}, api.Test{Kind: api.CSome, L: lit(text("x"))}, api.OK)
	asked(t, api.Cond{Kind: api.CCompare, Op: 4, L: noisy(a), R: noisy(unit), Args: rest}, api.Test{Kind: api.CCompare, Op: 4, L: at(0), R: lit(num(1))}, api.OK)
	for _, kind := range []int{api.CAnd, api.COr, api.CNot} {
		asked(t, api.Cond{Kind: kind, Op: 5, L: z, R: past, Args: []api.Cond{isNull(a)}}, api.Test{Kind: kind, Args: []api.Test{{Kind: api.CNull, L: at(0)}}}, api.OK)
	}
}

// asked holds what Where tells of a condition over t, and that a query's is the same.
func asked(t *testing.T, c api.Cond, want api.Test, err api.Errno) {
	t.Helper()
	got, code := Where(c, schemas()[0])
	if code != err || !reflect.DeepEqual(got, want) {
		t.Errorf("%+v: %+v, error %d, want %+v, error %d", c, got, code, want, err)
	}
	s := one(t, "select a from t")
	s.Where = c
	p, _, code := Query(queryOf(s), schemas())
	if code != err || err == api.OK && !reflect.DeepEqual(p.Parts[0].Where, want) {
		t.Errorf("%+v in a query: %+v, error %d, want %+v, error %d", c, p, code, want, err)
	}
}

// TestCompared holds P18.2: comparisons: their sides one by one, then their Op, then their types.
func TestCompared(t *testing.T) {
	for op := api.OpEq; op <= api.OpGe; op++ {
		asked(t, compared(op, a, unit), api.Test{Kind: api.CCompare, Op: op, L: at(0), R: lit(num(1))}, api.OK)
		asked(t, compared(op, words, b), api.Test{Kind: api.CCompare, Op: op, L: lit(text("x")), R: at(1)}, api.OK)
		asked(t, compared(op, null, b), api.Test{Kind: api.CCompare, Op: op, L: lit(nothing), R: at(1)}, api.OK)
		asked(t, compared(op, yes, null), api.Test{Kind: api.CCompare, Op: op, L: lit(truth(1)), R: lit(nothing)}, api.OK)
		asked(t, compared(op, null, null), api.Test{Kind: api.CCompare, Op: op, L: lit(nothing), R: lit(nothing)}, api.OK)
		asked(t, compared(op, yes, yes), api.Test{Kind: api.CCompare, Op: op, L: lit(truth(1)), R: lit(truth(1))}, api.OK)
		for _, two := range [][]api.Expr{{a, b}, {a, yes}, {words, unit}, {yes, b}, {yes, a}} {
			asked(t, compared(op, two[0], two[1]), api.Test{}, api.ErrType)
			asked(t, compared(op, two[1], two[0]), api.Test{}, api.ErrType)
		}
	}
	for _, op := range append(ends, 0, 7) {
		asked(t, compared(op, a, a), api.Test{}, api.ErrArg)
		asked(t, compared(op, a, b), api.Test{}, api.ErrArg)
		asked(t, compared(op, z, b), api.Test{}, api.ErrName)
		asked(t, compared(op, a, past), api.Test{}, api.ErrLong)
	}
	for _, odd := range []api.Expr{{}, reckoned(api.ENeg, unit), reckoned(api.EAdd, a, a), reckoned(api.ESub, z, a), reckoned(api.EMul), {Kind: 7}, {Kind: -1, Name: "a"}} {
		asked(t, compared(api.OpEq, odd, a), api.Test{}, api.ErrArg)
		asked(t, compared(api.OpEq, a, odd), api.Test{}, api.ErrArg)
		asked(t, compared(api.OpEq, odd, z), api.Test{}, api.ErrArg)
		asked(t, compared(api.OpEq, z, odd), api.Test{}, api.ErrName)
		for _, kind := range []int{api.CNull, api.CSome} {
			asked(t, api.Cond{Kind: kind, L: odd, R: a}, api.Test{}, api.ErrArg)
		}
	}
	asked(t, compared(api.OpEq, z, past), api.Test{}, api.ErrName)
	asked(t, compared(api.OpEq, past, z), api.Test{}, api.ErrLong)
	asked(t, compared(api.OpEq, wrong, past), api.Test{}, api.ErrArg)
	asked(t, compared(api.OpEq, b, wrong), api.Test{}, api.ErrArg)
}

// TestNone holds P18.2: what is, or isn't, nothing is a column or a value; and no condition is one too.
func TestNone(t *testing.T) {
	asked(t, api.Cond{}, api.Test{}, api.OK)
	for _, kind := range []int{api.CNull, api.CSome} {
		for _, c := range []struct {
			l    api.Expr
			want api.Calc
		}{{a, at(0)}, {b, at(1)}, {of("t", "b"), at(1)}, {null, lit(nothing)}, {words, lit(text("x"))}, {yes, lit(truth(1))}} {
			asked(t, api.Cond{Kind: kind, L: c.l}, api.Test{Kind: kind, L: c.want}, api.OK)
		}
		asked(t, api.Cond{Kind: kind, L: z}, api.Test{}, api.ErrName)
		asked(t, api.Cond{Kind: kind, L: of("u", "a")}, api.Test{}, api.ErrName)
		asked(t, api.Cond{Kind: kind, L: past}, api.Test{}, api.ErrLong)
		asked(t, api.Cond{Kind: kind, L: wrong}, api.Test{}, api.ErrArg)
	}
	for _, kind := range append(ends, 7) {
		asked(t, api.Cond{Kind: kind, Op: 1, L: a, R: a}, api.Test{}, api.ErrArg)
		asked(t, cond(kind, isNull(a)), api.Test{}, api.ErrArg)
		asked(t, cond(kind, isNull(z)), api.Test{}, api.ErrArg)
	}
}

// TestJoined holds P18.2: conditions of conditions, Arg by Arg, each of which is one.
func TestJoined(t *testing.T) {
	isA, isB := isNull(a), api.Cond{Kind: api.CSome, L: b}
	testA, testB := api.Test{Kind: api.CNull, L: at(0)}, api.Test{Kind: api.CSome, L: at(1)}
	test := func(kind int, l ...api.Test) api.Test { return api.Test{Kind: kind, Args: l} }
	bad, none := api.Cond{Kind: 9}, api.Cond{}
	for _, kind := range []int{api.CAnd, api.COr} {
		asked(t, cond(kind, isB), test(kind, testB), api.OK)
		asked(t, cond(kind, isA, isB), test(kind, testA, testB), api.OK)
		asked(t, cond(kind, isB, cond(api.CNot, isA), isA, isB), test(kind, testB, test(api.CNot, testA), testA, testB), api.OK)
		asked(t, cond(kind, cond(kind, isA), cond(kind, isB, isA)), test(kind, test(kind, testA), test(kind, testB, testA)), api.OK)
		asked(t, cond(kind), api.Test{}, api.ErrArg)
		asked(t, cond(kind, isA, isNull(z), bad), api.Test{}, api.ErrName)
		asked(t, cond(kind, isNull(past), isNull(z)), api.Test{}, api.ErrLong)
		asked(t, cond(kind, isNull(z), none), api.Test{}, api.ErrName)
		asked(t, cond(kind, isNull(z), none, isNull(past)), api.Test{}, api.ErrName)
		asked(t, cond(kind, none, isNull(z)), api.Test{}, api.ErrArg)
		asked(t, cond(kind, isA, none), api.Test{}, api.ErrArg)
		asked(t, cond(kind, none), api.Test{}, api.ErrArg)
		asked(t, cond(kind, none, isA), api.Test{}, api.ErrArg)
		asked(t, cond(kind, isA, cond(api.CNot, none)), api.Test{}, api.ErrArg)
		asked(t, cond(kind, isA, cond(kind)), api.Test{}, api.ErrArg)
	}
	asked(t, cond(api.CNot, isA), test(api.CNot, testA), api.OK)
	asked(t, cond(api.CNot, cond(api.CNot, isB)), test(api.CNot, test(api.CNot, testB)), api.OK)
	asked(t, cond(api.CNot), api.Test{}, api.ErrArg)
	asked(t, cond(api.CNot, none), api.Test{}, api.ErrArg)
	asked(t, cond(api.CNot, isA, isB), api.Test{}, api.ErrArg)
	asked(t, cond(api.CNot, isNull(z), isB), api.Test{}, api.ErrArg)
	asked(t, cond(api.CNot, isNull(z)), api.Test{}, api.ErrName)
	asked(t, cond(api.CNot, compared(api.OpLt, a, b)), api.Test{}, api.ErrType)
}

// TestWhere holds P18.2: a condition is resolved over one schema, called by its Name.
func TestWhere(t *testing.T) {
	l := schemas()
	for _, c := range []struct {
		c    api.Cond
		s    api.Schema
		want api.Test
		err  api.Errno
	}{
		{isNull(of("u", "c")), l[1], api.Test{Kind: api.CNull, L: at(1)}, api.OK},
		{isNull(of("t", "c")), l[1], api.Test{}, api.ErrName},
		{isNull(named("p")), l[3], api.Test{}, api.ErrMany},
		{isNull(of("d", "p")), l[3], api.Test{}, api.ErrMany},
		{isNull(of("d", "q")), l[3], api.Test{Kind: api.CNull, L: at(1)}, api.OK},
		{isNull(of("t", "z")), l[4], api.Test{Kind: api.CNull, L: at(0)}, api.OK},
		{compared(api.OpEq, named("four"), named("four")), l[5], api.Test{Kind: api.CCompare, Op: api.OpEq, L: at(4), R: at(4)}, api.OK},
		{compared(api.OpEq, named("none"), named("four")), l[5], api.Test{Kind: api.CCompare, Op: api.OpEq, L: at(0), R: at(4)}, api.OK},
		{compared(api.OpEq, named("below"), named("four")), l[5], api.Test{}, api.ErrType},
		{api.Cond{}, l[6], api.Test{}, api.OK},
		{isNull(null), l[6], api.Test{Kind: api.CNull, L: lit(nothing)}, api.OK},
		{isNull(named("")), l[6], api.Test{}, api.ErrName},
		{isNull(a), api.Schema{}, api.Test{}, api.ErrName},
	} {
		got, err := Where(c.c, c.s)
		if err != c.err || !reflect.DeepEqual(got, c.want) {
			t.Errorf("%+v over %s: %+v, error %d", c.c, c.s.Name, got, err)
		}
	}
}

func set(name string, e api.Expr) api.Set { return api.Set{Name: name, E: e} }

// sets holds what Sets tells over s.
func sets(t *testing.T, s api.Schema, l []api.Set, err api.Errno, want ...api.Put) {
	t.Helper()
	got, code := Sets(l, s)
	if code != err || !reflect.DeepEqual(slices.Clip(got), slices.Clip(want)) {
		t.Errorf("%+v over %s: %+v, error %d", l, s.Name, got, code)
	}
}

// TestSets holds P18.2: new values for columns, each once, of their types or nothing.
func TestSets(t *testing.T) {
	l := schemas()
	own := l[0]
	put := func(place int, e api.Calc) api.Put { return api.Put{At: place, E: e} }
	sets(t, own, []api.Set{set("a", reckoned(api.EAdd, a, unit)), set("b", null)}, api.OK, put(0, calc(api.EAdd, at(0), lit(num(1)))), put(1, lit(nothing)))
	sets(t, own, []api.Set{set("b", words), set("a", of("t", "a"))}, api.OK, put(1, lit(text("x"))), put(0, at(0)))
	sets(t, own, []api.Set{set("a", reckoned(api.ENeg, null))}, api.OK, put(0, calc(api.ENeg, lit(nothing))))
	sets(t, l[1], []api.Set{set("c", yes)}, api.OK, put(1, lit(truth(1))))
	sets(t, l[3], []api.Set{set("q", named("q"))}, api.OK, put(1, at(1)))
	sets(t, l[5], []api.Set{set("four", named("four")), set("none", named("none")), set("below", named("none"))}, api.OK, put(4, at(4)), put(0, at(0)), put(5, at(0)))
	for _, c := range []struct {
		s   api.Schema
		l   []api.Set
		err api.Errno
	}{
		{own, nil, api.ErrLong},
		{own, []api.Set{}, api.ErrLong},
		{own, []api.Set{set("z", a)}, api.ErrName},
		{own, []api.Set{set("", a)}, api.ErrName},
		{own, []api.Set{set("t", a)}, api.ErrName},
		{l[3], []api.Set{set("p", unit)}, api.ErrMany},
		{l[3], []api.Set{set("p", z)}, api.ErrMany},
		{own, []api.Set{set("a", a), set("a", a)}, api.ErrTwice},
		{own, []api.Set{set("a", a), set("b", b), set("a", null)}, api.ErrTwice},
		{own, []api.Set{set("a", a), set("b", b), set("b", null)}, api.ErrTwice},
		{own, []api.Set{set("a", a), set("a", z)}, api.ErrTwice},
		{own, []api.Set{set("a", z), set("a", a)}, api.ErrName},
		{own, []api.Set{set("a", b), set("z", a)}, api.ErrType},
		{own, []api.Set{set("z", past)}, api.ErrName},
		{own, []api.Set{set("a", past), set("z", a)}, api.ErrLong},
		{own, []api.Set{set("a", b)}, api.ErrType},
		{own, []api.Set{set("b", a)}, api.ErrType},
		{own, []api.Set{set("b", yes)}, api.ErrType},
		{own, []api.Set{set("a", words)}, api.ErrType},
		{own, []api.Set{set("b", reckoned(api.ENeg, null))}, api.ErrType},
		{own, []api.Set{set("b", reckoned(api.ENeg, z))}, api.ErrName},
		{own, []api.Set{set("a", reckoned(api.EAdd, a, b))}, api.ErrType},
		{own, []api.Set{set("a", reckoned(api.EAdd, a))}, api.ErrArg},
		{own, []api.Set{set("a", wrong)}, api.ErrArg},
		{own, []api.Set{set("a", api.Expr{})}, api.ErrArg},
		{own, []api.Set{set("a", of("u", "a"))}, api.ErrName},
		{l[5], []api.Set{set("none", unit)}, api.ErrType},
		{l[5], []api.Set{set("none", named("four"))}, api.ErrType},
		{l[5], []api.Set{set("four", named("below"))}, api.ErrType},
		{l[6], []api.Set{set("a", unit)}, api.ErrName},
	} {
		sets(t, c.s, c.l, c.err)
	}
}

// TestMostSets holds P18.2: there are up to MaxCols new values, or else nothing is looked at.
func TestMostSets(t *testing.T) {
	s := schema("x")
	var l []api.Set
	var want []api.Put
	for i := range api.MaxCols + 1 {
		name := string(rune('a' + i))
		s.Cols = append(s.Cols, col(name, api.TInt))
		l = append(l, set(name, val(num(i))))
		want = append(want, api.Put{At: i, E: lit(num(i))})
	}
	for n := 1; n <= api.MaxCols; n++ {
		sets(t, s, l[:n], api.OK, want[:n]...)
		sets(t, s, slices.Repeat([]api.Set{set("nobody", past)}, n), api.ErrName)
	}
	sets(t, s, l, api.ErrLong)
	sets(t, s, slices.Repeat([]api.Set{set("nobody", past)}, api.MaxCols+1), api.ErrLong)
}

// itemOf holds an item, the second of its select, to what is told of it, or to the error.
func itemOf(t *testing.T, item api.Item, want api.Out, err api.Errno) {
	t.Helper()
	s := one(t, "select a, b from t group by a, b")
	s.Items[1] = item
	p, _, got := Query(queryOf(s), schemas())
	if got != err || err == api.OK && !reflect.DeepEqual(p.Parts[0].Outs[1], want) {
		t.Errorf("%+v: %+v, error %d", item, p, got)
	}
}

// TestItems holds P18.1: items' aggregates, types and names.
func TestItems(t *testing.T) {
	sum := reckoned(api.EAdd, a, unit)
	for _, c := range []struct {
		item api.Item
		want api.Out
	}{
		{api.Item{E: a}, out("a", api.TInt, at(0))},
		{api.Item{E: of("t", "b")}, out("b", api.TText, at(1))},
		{api.Item{E: a, As: "x"}, out("x", api.TInt, at(0))},
		{api.Item{E: b, As: "c2"}, out("c2", api.TText, at(1))},
		{api.Item{Agg: api.ACount}, gives(api.ACount, "c2", api.TInt, api.Calc{})},
		{api.Item{Agg: api.ACount, As: "n"}, gives(api.ACount, "n", api.TInt, api.Calc{})},
		{api.Item{Agg: api.ACount, E: a}, gives(api.ACount, "c2", api.TInt, api.Calc{})},
		{api.Item{Agg: api.ACount, E: z}, gives(api.ACount, "c2", api.TInt, api.Calc{})},
		{api.Item{Agg: api.ACount, E: past}, gives(api.ACount, "c2", api.TInt, api.Calc{})},
		{api.Item{Agg: api.ACount, E: reckoned(9, z, z), As: "m"}, gives(api.ACount, "m", api.TInt, api.Calc{})},
		{api.Item{Agg: api.ASome, E: a}, gives(api.ASome, "c2", api.TInt, at(0))},
		{api.Item{Agg: api.ASome, E: b, As: "b"}, gives(api.ASome, "b", api.TInt, at(1))},
		{api.Item{Agg: api.ASome, E: yes}, gives(api.ASome, "c2", api.TInt, lit(truth(1)))},
		{api.Item{Agg: api.ASome, E: null}, gives(api.ASome, "c2", api.TInt, lit(nothing))},
		{api.Item{Agg: api.ASum, E: a}, gives(api.ASum, "c2", api.TInt, at(0))},
		{api.Item{Agg: api.ASum, E: null}, gives(api.ASum, "c2", api.TInt, lit(nothing))},
		{api.Item{Agg: api.ASum, E: sum, As: "s"}, gives(api.ASum, "s", api.TInt, calc(api.EAdd, at(0), lit(num(1))))},
		{api.Item{Agg: api.AMin, E: a}, gives(api.AMin, "c2", api.TInt, at(0))},
		{api.Item{Agg: api.AMin, E: b}, gives(api.AMin, "c2", api.TText, at(1))},
		{api.Item{Agg: api.AMin, E: null}, gives(api.AMin, "c2", api.TAny, lit(nothing))},
		{api.Item{Agg: api.AMax, E: yes}, gives(api.AMax, "c2", api.TBool, lit(truth(1)))},
		{api.Item{Agg: api.AMax, E: words, As: "w"}, gives(api.AMax, "w", api.TText, lit(text("x")))},
		{api.Item{Agg: api.AMax, E: sum}, gives(api.AMax, "c2", api.TInt, calc(api.EAdd, at(0), lit(num(1))))},
	} {
		itemOf(t, c.item, c.want, api.OK)
	}
	for _, agg := range []int{api.ANone, api.ASome, api.ASum, api.AMin, api.AMax, api.ATotal, -1, math.MinInt, math.MaxInt} {
		for _, c := range []struct {
			e   api.Expr
			err api.Errno
		}{{z, api.ErrName}, {past, api.ErrLong}, {wrong, api.ErrArg}, {reckoned(api.ENeg, b), api.ErrType}, {api.Expr{}, api.ErrArg}, {reckoned(api.EMul, a), api.ErrArg}} {
			itemOf(t, api.Item{Agg: agg, E: c.e}, api.Out{}, c.err)
		}
	}
	for _, agg := range append(ends, api.ATotal, 7) {
		itemOf(t, api.Item{Agg: agg, E: a}, api.Out{}, api.ErrArg)
		itemOf(t, api.Item{Agg: agg, E: b}, api.Out{}, api.ErrArg)
	}
	for _, e := range []api.Expr{b, words, yes} {
		itemOf(t, api.Item{Agg: api.ASum, E: e}, api.Out{}, api.ErrType)
	}
}

// TestNumbers holds P18.1: items without a name are called c and their number.
func TestNumbers(t *testing.T) {
	for s, want := range map[string][]string{
		"select 1, 2, 3 from t":                             {"c1", "c2", "c3"},
		"select a, 1, b, null as x, 'y' from t":             {"a", "c2", "b", "x", "c5"},
		"select -a, a + 1, -1, a as c1, t.a, 2 from t":      {"c1", "c2", "c3", "c1", "a", "c6"},
		"select 1, 2, 3, 4, 5, 6, 7, 8 from t":              {"c1", "c2", "c3", "c4", "c5", "c6", "c7", "c8"},
		"select max(a), min(a) as a, count(a) from t":       {"c1", "a", "c3"},
		"select 1, 2 from t union all select a, a from t":   {"c1", "c2"},
		"select a, a from t union all select a, 1 from t":   {"a", "a"},
		"select x.a, y.a, y.b, x.b from t as x, t as y":     {"a", "a", "b", "b"},
		"select sum(a), a as s, count(*) from t group by a": {"c1", "s", "c3"},
	} {
		p, cols, err := Query(read(t, s), schemas())
		if err != api.OK || len(cols) != len(want) {
			t.Errorf("%s: error %d", s, err)
			continue
		}
		for i, name := range want {
			if cols[i].Name != name || p.Parts[0].Outs[i].Name != name {
				t.Errorf("%s: %q, %q, want %q", s, cols[i].Name, p.Parts[0].Outs[i].Name, name)
			}
		}
	}
}

// TestSumsOfOthers holds P18.1: sums of columns of no type, and of types that there aren't.
func TestSumsOfOthers(t *testing.T) {
	says(t, "select sum(none), sum(number) from o", api.OK)
	for _, name := range []string{"truth", "words", "four", "below"} {
		says(t, "select sum("+name+") from o", api.ErrType)
		says(t, "select min("+name+"), max("+name+"), count("+name+") from o", api.OK)
	}
}

// TestDeep holds P1 and P18.1, P18.2 of what is nested as deep as may be, and of what is very broad.
func TestDeep(t *testing.T) {
	const deep = 1<<16 - 8
	tower := func(e api.Expr) api.Expr {
		for range deep {
			e = reckoned(api.ENeg, e)
		}
		return e
	}
	nots := func(c api.Cond) api.Cond {
		for range deep {
			c = cond(api.CNot, c)
		}
		return c
	}
	own := schemas()[0]
	for e, want := range map[string]api.Errno{"a": api.OK, "b": api.ErrType, "z": api.ErrName} {
		if _, err := Sets([]api.Set{set("a", tower(named(e)))}, own); err != want {
			t.Errorf("%s: error %d, want %d", e, err, want)
		}
	}
	for _, c := range []struct {
		c   api.Cond
		err api.Errno
	}{{isNull(b), api.OK}, {isNull(z), api.ErrName}, {api.Cond{}, api.ErrArg}} {
		if _, err := Where(nots(c.c), own); err != c.err {
			t.Errorf("%+v: error %d, want %d", c.c, err, c.err)
		}
		if _, err := Where(cond(api.COr, append(slices.Repeat([]api.Cond{isNull(a)}, 100000), c.c)...), own); err != c.err {
			t.Errorf("%+v at last: error %d, want %d", c.c, err, c.err)
		}
	}
}
