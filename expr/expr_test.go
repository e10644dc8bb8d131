package expr

import (
	"math"
	"slices"
	"strings"
	"testing"

	"belvedere/api"
)

func num(n int) api.Value     { return api.Value{Kind: api.TInt, N: n} }
func held(n int) api.Value    { return api.Value{Kind: api.TBool, N: n} }
func text(s string) api.Value { return api.Value{Kind: api.TText, S: s} }

var nothing = api.Value{}

func col(at int, args ...api.Calc) api.Calc {
	return api.Calc{Kind: api.EColumn, At: at, Args: args}
}

func val(v api.Value, args ...api.Calc) api.Calc {
	return api.Calc{Kind: api.EValue, Val: v, Args: args}
}

func lit(n int) api.Calc { return val(num(n)) }

func calc(kind int, args ...api.Calc) api.Calc { return api.Calc{Kind: kind, Args: args} }

func add(a, b api.Calc) api.Calc { return calc(api.EAdd, a, b) }
func sub(a, b api.Calc) api.Calc { return calc(api.ESub, a, b) }
func mul(a, b api.Calc) api.Calc { return calc(api.EMul, a, b) }
func neg(a api.Calc) api.Calc    { return calc(api.ENeg, a) }

// past is an expression whose error is ErrOverflow.
func past() api.Calc { return add(lit(math.MaxInt), lit(1)) }

// unlike is an expression whose error is ErrType.
func unlike() api.Calc { return mul(lit(2), val(text("a"))) }

// wrongKinds are numbers that are no kind of an expression.
func wrongKinds() []int {
	return []int{math.MinInt, -3, -1, 0, 7, 8, 257, 259, math.MaxInt}
}

// odd are values that may not be.
func odd() []api.Value {
	return []api.Value{{N: 1}, {S: "a"}, {Kind: api.TInt, N: 2, S: "b"}, {Kind: api.TBool, N: 9}, {Kind: api.TText, N: 3, S: "c"}, {Kind: 4}, {Kind: -1, N: 7}, text(strings.Repeat("x", 65))}
}

// evals holds that e over row comes to want, or to that error.
func evals(t *testing.T, e api.Calc, row []api.Value, want api.Value, wantErr api.Errno) {
	t.Helper()
	if got, err := Eval(e, row); got != want || err != wantErr {
		t.Errorf("Eval(%+v, %+v) = %+v, %d, want %+v, %d", e, row, got, err, want, wantErr)
	}
}

// fails holds that e over row has that error, and no value beside it.
func fails(t *testing.T, e api.Calc, row []api.Value, want api.Errno) {
	t.Helper()
	evals(t, e, row, nothing, want)
}

// TestEvalColumn holds P11.1, of EColumn: each value of a row, as it is, and places that the row hasn't.
func TestEvalColumn(t *testing.T) {
	row := append([]api.Value{nothing, num(5), num(math.MinInt), num(math.MaxInt), held(0), held(1), text(""), text("it's")}, odd()...)
	for at, want := range row {
		evals(t, col(at), row, want, api.OK)
	}
	for _, at := range []int{math.MinInt, -len(row), -1, len(row), len(row) + 1, 1 << 32, math.MaxInt} {
		fails(t, col(at), row, api.ErrType)
	}
	for _, at := range []int{math.MinInt, -1, 0, 1, math.MaxInt} {
		fails(t, col(at), nil, api.ErrType)
		fails(t, col(at), []api.Value{}, api.ErrType)
		fails(t, col(at), row[:0], api.ErrType)
	}
	fails(t, col(2), row[:2], api.ErrType)
	evals(t, col(1), row[:2], num(5), api.OK)
}

// TestEvalValue holds P11.1, of EValue: any value, as it is, over any row.
func TestEvalValue(t *testing.T) {
	for _, v := range append([]api.Value{nothing, num(0), num(math.MinInt), held(1), text(""), text("a")}, odd()...) {
		evals(t, val(v), nil, v, api.OK)
		evals(t, val(v), []api.Value{num(1), num(2)}, v, api.OK)
	}
}

// TestEvalUnnamedFields holds P11.1: what a kind doesn't name doesn't count.
func TestEvalUnnamedFields(t *testing.T) {
	row := []api.Value{num(3), num(4)}
	full := func(kind int, args ...api.Calc) api.Calc {
		return api.Calc{Kind: kind, At: 1, Val: text("v"), Args: args}
	}
	evals(t, full(api.EColumn, past()), row, num(4), api.OK)
	evals(t, full(api.EColumn, unlike(), past(), col(9)), row, num(4), api.OK)
	evals(t, full(api.EValue, past()), row, text("v"), api.OK)
	evals(t, full(api.EValue, unlike(), past(), col(9)), row, text("v"), api.OK)
	evals(t, full(api.EAdd, lit(1), col(0)), row, num(4), api.OK)
	evals(t, full(api.ESub, lit(1), col(0)), row, num(-2), api.OK)
	evals(t, full(api.EMul, lit(2), col(0)), row, num(6), api.OK)
	evals(t, full(api.ENeg, col(0)), row, num(-3), api.OK)
	far := api.Calc{Kind: api.EValue, At: 99, Val: num(1)}
	evals(t, far, row, num(1), api.OK)
	far.Kind, far.At, far.Val = api.EColumn, 0, api.Value{Kind: 9, N: 9, S: "s"}
	evals(t, far, row, num(3), api.OK)
}

// TestEvalReckoned holds P11.1, of EAdd, ESub, EMul and ENeg: numbers, the ends too.
func TestEvalReckoned(t *testing.T) {
	const least, most = math.MinInt, math.MaxInt
	row := []api.Value{num(7), num(-2), num(most), num(least)}
	for _, c := range []struct {
		e    api.Calc
		want int
	}{
		{add(col(0), col(1)), 5},
		{sub(col(0), col(1)), 9},
		{sub(col(1), col(0)), -9},
		{mul(col(0), col(1)), -14},
		{add(col(0), col(0)), 14},
		{sub(col(0), col(0)), 0},
		{neg(col(0)), -7},
		{neg(col(1)), 2},
		{neg(lit(0)), 0},
		{neg(neg(col(0))), 7},
		{neg(col(2)), -most},
		{add(col(2), col(3)), -1},
		{add(col(2), lit(0)), most},
		{add(col(3), lit(0)), least},
		{add(lit(most-1), lit(1)), most},
		{sub(lit(least+1), lit(1)), least},
		{sub(lit(-1), col(3)), most},
		{sub(col(3), col(3)), 0},
		{mul(lit(-1<<62), lit(2)), least},
		{mul(col(3), lit(1)), least},
		{mul(col(3), lit(0)), 0},
		{mul(add(col(0), lit(1)), sub(col(1), lit(3))), -40},
		{sub(sub(lit(10), lit(3)), lit(2)), 5},
		{sub(lit(10), sub(lit(3), lit(2))), 9},
		{neg(add(mul(lit(2), col(0)), neg(col(1)))), -16},
	} {
		evals(t, c.e, row, num(c.want), api.OK)
	}
	for _, e := range []api.Calc{
		add(col(2), lit(1)), add(lit(1), col(2)), add(col(3), lit(-1)), add(col(3), col(3)),
		sub(col(3), lit(1)), sub(lit(0), col(3)), sub(col(2), lit(-1)), sub(col(2), col(3)),
		mul(col(2), lit(2)), mul(col(3), lit(-1)), mul(col(3), col(3)), mul(lit(1<<32), lit(1<<31)),
		neg(col(3)), neg(neg(col(3))), sub(past(), lit(1)), mul(past(), lit(0)), mul(lit(0), past()),
	} {
		fails(t, e, row, api.ErrOverflow)
	}
}

// TestEvalNothing holds P11.1: of nothing comes nothing, but not of what isn't reckoned with.
func TestEvalNothing(t *testing.T) {
	row := []api.Value{nothing, num(5), held(1), text("a")}
	for _, kind := range []int{api.EAdd, api.ESub, api.EMul} {
		for _, e := range []api.Calc{calc(kind, col(0), col(1)), calc(kind, col(1), col(0)), calc(kind, col(0), col(0)), calc(kind, val(nothing), lit(math.MinInt)), calc(kind, neg(col(0)), col(1)), calc(kind, calc(kind, col(0), lit(1)), lit(math.MaxInt))} {
			evals(t, e, row, nothing, api.OK)
		}
		for _, other := range []int{2, 3} {
			fails(t, calc(kind, col(0), col(other)), row, api.ErrType)
			fails(t, calc(kind, col(other), col(0)), row, api.ErrType)
			fails(t, calc(kind, col(1), col(other)), row, api.ErrType)
			fails(t, calc(kind, col(other), col(1)), row, api.ErrType)
			fails(t, calc(kind, col(other), col(other)), row, api.ErrType)
		}
	}
	evals(t, neg(col(0)), row, nothing, api.OK)
	evals(t, neg(val(nothing)), nil, nothing, api.OK)
	fails(t, neg(col(2)), row, api.ErrType)
	fails(t, neg(col(3)), row, api.ErrType)
	fails(t, neg(val(api.Value{Kind: 9})), row, api.ErrType)
}

// TestEvalErrorsInOrder holds P11.1: the first Arg's error is told ahead of the second's, and both ahead of the sum's.
func TestEvalErrorsInOrder(t *testing.T) {
	row := []api.Value{num(5), text("a")}
	wrong := []struct {
		e   api.Calc
		err api.Errno
	}{{past(), api.ErrOverflow}, {unlike(), api.ErrType}, {col(2), api.ErrType}, {neg(lit(math.MinInt)), api.ErrOverflow}, {calc(0), api.ErrType}, {calc(api.EAdd, lit(1)), api.ErrType}}
	right := []api.Calc{col(0), col(1), lit(7), val(nothing), val(held(1))}
	for _, kind := range []int{api.EAdd, api.ESub, api.EMul} {
		for _, a := range wrong {
			for _, b := range wrong {
				fails(t, calc(kind, a.e, b.e), row, a.err)
				fails(t, calc(kind, neg(a.e), add(b.e, lit(1))), row, a.err)
			}
			for _, b := range right {
				fails(t, calc(kind, a.e, b), row, a.err)
				fails(t, calc(kind, b, a.e), row, a.err)
				fails(t, calc(kind, calc(kind, b, lit(0)), a.e), row, first(b, row, a.err))
			}
		}
	}
	for _, a := range wrong {
		fails(t, neg(a.e), row, a.err)
		fails(t, neg(neg(neg(a.e))), row, a.err)
	}
}

// first is the error of what is reckoned with b, or else err.
func first(b api.Calc, row []api.Value, err api.Errno) api.Errno {
	if v, _ := Eval(b, row); v.Kind == api.TBool || v.Kind == api.TText {
		return api.ErrType
	}
	return err
}

// TestEvalWrongArgs holds P11.1: fewer and more Args than a kind has are ErrType, whatever they are.
func TestEvalWrongArgs(t *testing.T) {
	row := []api.Value{num(5)}
	for _, arg := range []api.Calc{lit(1), col(0), val(nothing), past(), unlike()} {
		for n := range 6 {
			args := slices.Repeat([]api.Calc{arg}, n)
			for _, kind := range []int{api.EAdd, api.ESub, api.EMul} {
				if n != 2 {
					fails(t, calc(kind, args...), row, api.ErrType)
					fails(t, neg(calc(kind, args...)), row, api.ErrType)
				}
			}
			if n != 1 {
				fails(t, calc(api.ENeg, args...), row, api.ErrType)
			}
			evals(t, col(0, args...), row, num(5), api.OK)
			evals(t, val(num(6), args...), row, num(6), api.OK)
		}
	}
}

// TestEvalWrongKinds holds P11.1: any other kind is ErrType, with any Args.
func TestEvalWrongKinds(t *testing.T) {
	row := []api.Value{num(5), num(6)}
	for _, kind := range wrongKinds() {
		for n := range 4 {
			for _, arg := range []api.Calc{lit(1), past()} {
				e := api.Calc{Kind: kind, At: 1, Val: num(3), Args: slices.Repeat([]api.Calc{arg}, n)}
				fails(t, e, row, api.ErrType)
				fails(t, neg(e), row, api.ErrType)
				fails(t, add(lit(1), e), row, api.ErrType)
			}
		}
	}
}

// TestReads holds P11.1, of Reads: each place once, rising, of columns in Args of any kind.
func TestReads(t *testing.T) {
	type places = []int
	for _, c := range []struct {
		e    api.Calc
		want places
	}{
		{api.Calc{}, nil},
		{lit(3), nil},
		{api.Calc{Kind: api.EValue, At: 4}, nil},
		{api.Calc{Kind: api.EAdd, At: 4}, nil},
		{api.Calc{At: 4}, nil},
		{col(0), places{0}},
		{col(7), places{7}},
		{col(-1), places{-1}},
		{col(math.MinInt), places{math.MinInt}},
		{col(math.MaxInt), places{math.MaxInt}},
		{add(col(1), col(2)), places{1, 2}},
		{add(col(2), col(1)), places{1, 2}},
		{add(col(2), col(2)), places{2}},
		{mul(add(col(3), col(1)), sub(col(3), neg(col(0)))), places{0, 1, 3}},
		{add(col(10), add(col(9), add(col(-9), add(col(10), col(-10))))), places{-10, -9, 9, 10}},
		{sub(col(math.MaxInt), sub(col(math.MinInt), col(0))), places{math.MinInt, 0, math.MaxInt}},
		{neg(col(5)), places{5}},
		{col(4, col(2)), places{2, 4}},
		{col(4, col(6, col(5)), lit(1), col(4)), places{4, 5, 6}},
		{val(num(1), col(3), neg(col(2))), places{2, 3}},
		{calc(api.EAdd), nil},
		{calc(api.EAdd, col(8)), places{8}},
		{calc(api.EMul, col(8), col(7), col(6)), places{6, 7, 8}},
		{calc(api.ENeg, col(3), col(1)), places{1, 3}},
		{past(), nil},
		{add(unlike(), col(1)), places{1}},
	} {
		if got := Reads(c.e); !slices.Equal(got, c.want) {
			t.Errorf("Reads(%+v) = %v, want %v", c.e, got, c.want)
		}
	}
	for _, kind := range wrongKinds() {
		e := api.Calc{Kind: kind, At: 5, Args: []api.Calc{col(3), col(2, col(1)), {Kind: kind, At: 6, Args: []api.Calc{col(3), col(-4)}}}}
		if got, want := Reads(e), (places{-4, 1, 2, 3}); !slices.Equal(got, want) {
			t.Errorf("Reads(%+v) = %v, want %v", e, got, want)
		}
	}
}

// TestExample holds the chapter's examples.
func TestExample(t *testing.T) {
	row := []api.Value{nothing, num(5)}
	evals(t, mul(col(1), lit(3)), row, num(15), api.OK)
	stands(t, compared(api.OpLt, col(1), lit(9)), row, api.True)
	stands(t, compared(api.OpLt, col(0), lit(9)), row, api.Unknown)
	fails(t, col(2), row, api.ErrType)
}
