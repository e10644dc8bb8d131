package expr

import (
	"math"
	"slices"
	"testing"

	"belvedere/api"
)

func compared(op int, l, r api.Calc) api.Test {
	return api.Test{Kind: api.CCompare, Op: op, L: l, R: r}
}

func null(l api.Calc) api.Test { return api.Test{Kind: api.CNull, L: l} }
func some(l api.Calc) api.Test { return api.Test{Kind: api.CSome, L: l} }

func join(kind int, args ...api.Test) api.Test { return api.Test{Kind: kind, Args: args} }

func and(args ...api.Test) api.Test { return join(api.CAnd, args...) }
func or(args ...api.Test) api.Test  { return join(api.COr, args...) }
func not(args ...api.Test) api.Test { return join(api.CNot, args...) }

// yes, no and open are conditions that stand so over every row.
func yes() api.Test  { return compared(api.OpEq, lit(1), lit(1)) }
func no() api.Test   { return compared(api.OpEq, lit(1), lit(2)) }
func open() api.Test { return compared(api.OpEq, lit(1), val(nothing)) }

// wrongConds are numbers that are no kind of a condition.
func wrongConds() []int { return []int{math.MinInt, -6, -1, 7, 8, 256, 257, math.MaxInt} }

func stands(t *testing.T, c api.Test, row []api.Value, want int) {
	t.Helper()
	if got := Holds(c, row); got != want {
		t.Errorf("Holds(%+v, %+v) = %d, want %d", c, row, got, want)
	}
}

// TestHoldsNone holds P11.2, of CNone: True, whatever else it has.
func TestHoldsNone(t *testing.T) {
	for _, row := range [][]api.Value{nil, {}, {num(1)}, {nothing, held(0)}} {
		stands(t, api.Test{}, row, api.True)
		stands(t, api.Test{Op: api.OpEq, L: lit(1), R: lit(2), Args: []api.Test{no(), open()}}, row, api.True)
	}
}

// TestHoldsCompare holds P11.2, of CCompare: each operator, of columns and values.
func TestHoldsCompare(t *testing.T) {
	row := []api.Value{num(1), num(2), text("a"), text("b"), held(0), held(1), num(math.MinInt), num(math.MaxInt)}
	for _, c := range []struct{ op, ahead, same, behind int }{
		{api.OpEq, api.False, api.True, api.False},
		{api.OpNe, api.True, api.False, api.True},
		{api.OpLt, api.True, api.False, api.False},
		{api.OpLe, api.True, api.True, api.False},
		{api.OpGt, api.False, api.False, api.True},
		{api.OpGe, api.False, api.True, api.True},
	} {
		for i := 0; i < len(row); i += 2 {
			stands(t, compared(c.op, col(i), col(i+1)), row, c.ahead)
			stands(t, compared(c.op, col(i+1), col(i)), row, c.behind)
			stands(t, compared(c.op, col(i), col(i)), row, c.same)
			stands(t, compared(c.op, col(i), val(row[i+1])), row, c.ahead)
			stands(t, compared(c.op, val(row[i+1]), col(i)), row, c.behind)
			stands(t, compared(c.op, val(row[i]), val(row[i+1])), nil, c.ahead)
			stands(t, compared(c.op, val(row[i]), val(row[i])), nil, c.same)
		}
		stands(t, compared(c.op, col(0), col(2)), row, api.Unknown)
		stands(t, compared(c.op, col(4), lit(0)), row, api.Unknown)
		stands(t, compared(c.op, val(text("true")), col(5)), row, api.Unknown)
	}
	for _, op := range []int{math.MinInt, -1, 0, 7, 8, 257, math.MaxInt} {
		stands(t, compared(op, col(0), col(1)), row, api.Unknown)
		stands(t, compared(op, col(0), col(0)), row, api.Unknown)
	}
}

// noValue are sides that have no value: neither a column nor a value, or with an error.
func noValue() []api.Calc {
	l := []api.Calc{add(lit(1), lit(2)), sub(lit(1), lit(2)), mul(lit(1), lit(2)), neg(lit(1)), neg(col(0)), past(), unlike(), calc(api.EAdd), calc(api.ENeg), col(-1), col(2), col(math.MinInt), col(math.MaxInt), val(nothing), val(api.Value{N: 3}), col(1)}
	for _, kind := range wrongKinds() {
		l = append(l, api.Calc{Kind: kind, Val: num(5), Args: []api.Calc{lit(5)}})
	}
	return l
}

// TestHoldsSides holds P11.2, of sides: what has no value counts as nothing.
func TestHoldsSides(t *testing.T) {
	row := []api.Value{num(5), nothing}
	for _, side := range noValue() {
		for _, op := range []int{api.OpEq, api.OpNe, api.OpLt, api.OpLe, api.OpGt, api.OpGe} {
			for _, other := range append(noValue(), col(0), lit(5), lit(0), val(text(""))) {
				stands(t, compared(op, side, other), row, api.Unknown)
				stands(t, compared(op, other, side), row, api.Unknown)
			}
		}
		stands(t, null(side), row, api.True)
		stands(t, some(side), row, api.False)
	}
	stands(t, compared(api.OpEq, col(0, past()), val(num(5), unlike())), row, api.True)
}

// TestHoldsNull holds P11.2, of CNull and CSome: whether L's value is nothing, by its Kind alone.
func TestHoldsNull(t *testing.T) {
	row := []api.Value{nothing, num(0), held(0), text(""), {S: "a"}, {N: 1}, {Kind: 9}, {Kind: -1}}
	for at, v := range row {
		isNull, isSome := api.False, api.True
		if v.Kind == 0 {
			isNull, isSome = api.True, api.False
		}
		for _, l := range []api.Calc{col(at), val(v), col(at, past(), lit(1)), val(v, unlike())} {
			stands(t, null(l), row, isNull)
			stands(t, some(l), row, isSome)
			for _, r := range []api.Calc{lit(1), val(nothing), past()} {
				stands(t, api.Test{Kind: api.CNull, Op: api.OpEq, L: l, R: r, Args: []api.Test{open()}}, row, isNull)
				stands(t, api.Test{Kind: api.CSome, Op: api.OpEq, L: l, R: r, Args: []api.Test{open()}}, row, isSome)
			}
		}
	}
	stands(t, null(col(0)), nil, api.True)
	stands(t, some(col(0)), nil, api.False)
}

// TestHoldsJoined holds P11.2, of CAnd, COr and CNot: of none, one and several, with each of the truths.
func TestHoldsJoined(t *testing.T) {
	stands(t, and(), nil, api.True)
	stands(t, or(), nil, api.False)
	stands(t, not(), nil, api.Unknown)
	parts := []struct {
		c     api.Test
		truth int
	}{{no(), api.False}, {open(), api.Unknown}, {yes(), api.True}, {api.Test{}, api.True}, {api.Test{Kind: 9}, api.Unknown}, {or(), api.False}}
	for _, a := range parts {
		stands(t, and(a.c), nil, a.truth)
		stands(t, or(a.c), nil, a.truth)
		stands(t, not(a.c), nil, 2-a.truth)
		stands(t, not(not(a.c)), nil, a.truth)
		for _, b := range parts {
			stands(t, and(a.c, b.c), nil, min(a.truth, b.truth))
			stands(t, or(a.c, b.c), nil, max(a.truth, b.truth))
			stands(t, not(a.c, b.c), nil, api.Unknown)
			stands(t, and(not(a.c), or(a.c, b.c)), nil, min(2-a.truth, max(a.truth, b.truth)))
			for _, c := range parts {
				stands(t, and(a.c, b.c, c.c), nil, min(a.truth, b.truth, c.truth))
				stands(t, or(a.c, b.c, c.c), nil, max(a.truth, b.truth, c.truth))
				stands(t, not(a.c, b.c, c.c), nil, api.Unknown)
				stands(t, or(a.c, and(b.c, c.c)), nil, max(a.truth, min(b.truth, c.truth)))
			}
		}
	}
}

// TestHoldsUnnamedFields holds P11.2: what a kind doesn't name doesn't count.
func TestHoldsUnnamedFields(t *testing.T) {
	full := func(kind int, args ...api.Test) api.Test {
		return api.Test{Kind: kind, Op: api.OpLt, L: lit(1), R: lit(2), Args: args}
	}
	stands(t, full(api.CCompare, no(), open()), nil, api.True)
	stands(t, full(api.CAnd, yes(), no()), nil, api.False)
	stands(t, full(api.CAnd), nil, api.True)
	stands(t, full(api.COr), nil, api.False)
	stands(t, full(api.COr, open()), nil, api.Unknown)
	stands(t, full(api.CNot, no()), nil, api.True)
	stands(t, full(api.CNot), nil, api.Unknown)
}

// TestHoldsWrongKinds holds P11.2: any other kind is Unknown.
func TestHoldsWrongKinds(t *testing.T) {
	for _, kind := range wrongConds() {
		for _, args := range [][]api.Test{nil, {yes()}, {no()}, {yes(), yes()}, {no(), no(), no()}} {
			c := api.Test{Kind: kind, Op: api.OpEq, L: lit(1), R: lit(1), Args: args}
			stands(t, c, nil, api.Unknown)
			stands(t, not(c), nil, api.Unknown)
		}
	}
}

// TestAsks holds P11.2, of Asks: both sides and all Args, whatever the kind.
func TestAsks(t *testing.T) {
	if got := Asks(api.Test{}); len(got) != 0 {
		t.Errorf("Asks of nothing at all: %v", got)
	}
	kinds := append(wrongConds(), api.CNone, api.CCompare, api.CNull, api.CSome, api.CAnd, api.COr, api.CNot)
	for _, kind := range kinds {
		for _, c := range []struct {
			l, r api.Calc
			args []api.Test
			want []int
		}{
			{api.Calc{}, api.Calc{}, nil, nil},
			{lit(1), lit(2), []api.Test{yes(), open()}, nil},
			{col(3), api.Calc{}, nil, []int{3}},
			{api.Calc{}, col(3), nil, []int{3}},
			{col(3), col(3), nil, []int{3}},
			{col(4), col(3), nil, []int{3, 4}},
			{col(-4), col(math.MaxInt), nil, []int{-4, math.MaxInt}},
			{mul(col(4), col(2)), neg(col(3)), nil, []int{2, 3, 4}},
			{calc(0, col(2)), val(nothing, col(1, col(0))), nil, []int{0, 1, 2}},
			{lit(1), lit(1), []api.Test{null(col(2))}, []int{2}},
			{col(9), col(5), []api.Test{null(col(7)), compared(0, col(5), col(-1)), join(kind, some(col(8)))}, []int{-1, 5, 7, 8, 9}},
			{lit(1), col(1), []api.Test{join(kind, join(kind, join(kind, api.Test{R: col(6)}, api.Test{L: col(0)})))}, []int{0, 1, 6}},
		} {
			test := api.Test{Kind: kind, Op: api.OpEq, L: c.l, R: c.r, Args: c.args}
			if got := Asks(test); !slices.Equal(got, c.want) {
				t.Errorf("Asks(%+v) = %v, want %v", test, got, c.want)
			}
		}
	}
}

// like holds fields against each other; a list that holds nothing may be nil or empty.
func like(a, b api.Test) bool {
	return a.Kind == b.Kind && a.Op == b.Op && likeCalc(a.L, b.L) && likeCalc(a.R, b.R) && likes(a.Args, b.Args)
}

func likeCalc(a, b api.Calc) bool {
	return a.Kind == b.Kind && a.At == b.At && a.Val == b.Val && slices.EqualFunc(a.Args, b.Args, likeCalc)
}

func likes(a, b []api.Test) bool { return slices.EqualFunc(a, b, like) }

// parted holds what Both tells of c.
func parted(t *testing.T, c api.Test, want ...api.Test) {
	t.Helper()
	if got := Both(c); !likes(got, want) {
		t.Errorf("Both(%+v) = %+v, want %+v", c, got, want)
	}
}

// TestBoth holds P11.3.
func TestBoth(t *testing.T) {
	a, b := compared(api.OpLt, col(1), add(lit(9), col(2))), null(neg(col(0)))
	c, d := or(a, and(b, a)), not(and(a, b))
	parted(t, api.Test{})
	parted(t, api.Test{L: col(1), R: lit(2), Op: 1, Args: []api.Test{a, b}})
	parted(t, and())
	parted(t, and(and(), and(and(), api.Test{}), and(and(and()))))
	for _, one := range []api.Test{a, b, c, d, some(col(1)), or(), or(a), or(and(a, b)), not(), not(a, b), yes(), no(), open()} {
		parted(t, one, one)
		parted(t, and(one), one)
		parted(t, and(and(and(one))), one)
		parted(t, and(api.Test{}, one, and()), one)
		parted(t, and(one, one), one, one)
	}
	parted(t, and(a, b), a, b)
	parted(t, and(b, a), b, a)
	parted(t, and(c, d, a, a, b), c, d, a, a, b)
	parted(t, and(and(a, b), and(c, d)), a, b, c, d)
	parted(t, and(a, and(b, and(c, and(d, and())))), a, b, c, d)
	parted(t, and(and(and(and(and(), d), c), b), a), d, c, b, a)
	parted(t, api.Test{Kind: api.CAnd, Op: api.OpEq, L: col(1), R: col(2), Args: []api.Test{b}}, b)
}

// TestBothAlone holds P11.3: all that isn't CNone or CAnd stands alone, as it is, with all its fields.
func TestBothAlone(t *testing.T) {
	kinds := append(wrongConds(), api.CCompare, api.CNull, api.CSome, api.COr, api.CNot)
	full := api.Calc{Kind: api.EColumn, At: 3, Val: text("v"), Args: []api.Calc{col(1), calc(9, lit(2), neg(col(0)))}}
	for _, kind := range kinds {
		for _, args := range [][]api.Test{nil, {}, {and(yes(), no())}, {api.Test{}, open(), and()}} {
			c := api.Test{Kind: kind, Op: -7, L: full, R: add(full, full), Args: args}
			parted(t, c, c)
			parted(t, and(c, c, yes()), c, c, yes())
		}
	}
}
