package value

import (
	"math"
	"math/big"
	"slices"
	"strings"
	"testing"

	"belvedere/api"
)

func num(n int) api.Value     { return api.Value{Kind: api.TInt, N: n} }
func truth(n int) api.Value   { return api.Value{Kind: api.TBool, N: n} }
func text(s string) api.Value { return api.Value{Kind: api.TText, S: s} }

var nothing = api.Value{}

// edges are the numbers at which sums and products pass the ends, and those right beside them.
func edges() []int {
	l := []int{0, math.MinInt64, math.MaxInt64, 3037000499, 3037000500, 12345, 998244353}
	for _, shift := range []int{0, 1, 8, 31, 32, 33, 61, 62} {
		for d := -1; d <= 1; d++ {
			l = append(l, 1<<shift+d, -1<<shift+d)
		}
	}
	return append(l, math.MinInt64+1, math.MaxInt64-1)
}

// raw is all that a struct may hold, right or wrong.
func raw() []api.Value {
	kinds := []int{api.TAny, api.TInt, api.TBool, api.TText, 4, -1, math.MinInt64, math.MaxInt64}
	numbers := []int{0, 1, 2, -1, math.MinInt64, math.MaxInt64}
	texts := []string{"", "a", "ab", "b", "'", "\x00", "\xff", "é", strings.Repeat("x", 64), strings.Repeat("x", 65)}
	var l []api.Value
	for _, k := range kinds {
		for _, n := range numbers {
			for _, s := range texts {
				l = append(l, api.Value{Kind: k, N: n, S: s})
			}
		}
	}
	return l
}

// TestCheck holds P1.1.
func TestCheck(t *testing.T) {
	long := strings.Repeat("é", 32) + "x"
	for _, c := range []struct {
		v    api.Value
		want api.Errno
	}{
		{nothing, api.OK},
		{api.Value{N: 1}, api.ErrArg},
		{api.Value{S: "a"}, api.ErrArg},
		{num(0), api.OK},
		{num(math.MinInt64), api.OK},
		{num(math.MaxInt64), api.OK},
		{api.Value{Kind: api.TInt, N: 1, S: "a"}, api.ErrArg},
		{truth(0), api.OK},
		{truth(1), api.OK},
		{truth(2), api.ErrArg},
		{truth(-1), api.ErrArg},
		{api.Value{Kind: api.TBool, N: 1, S: "a"}, api.ErrArg},
		{text(""), api.OK},
		{text("a\x00\xff'"), api.OK},
		{text(strings.Repeat("x", 64)), api.OK},
		{text(long[:64]), api.OK},
		{text(long), api.ErrLong},
		{text(strings.Repeat("x", 65)), api.ErrLong},
		{text(strings.Repeat("x", 5000)), api.ErrLong},
		{api.Value{Kind: api.TText, N: 1, S: "a"}, api.ErrArg},
		{api.Value{Kind: api.TText, N: -1}, api.ErrArg},
		{api.Value{Kind: api.TText, N: 1, S: strings.Repeat("x", 65)}, api.ErrArg},
		{api.Value{Kind: api.TInt, S: strings.Repeat("x", 65)}, api.ErrArg},
		{api.Value{S: strings.Repeat("x", 65)}, api.ErrArg},
		{api.Value{Kind: 4}, api.ErrArg},
		{api.Value{Kind: -1}, api.ErrArg},
		{api.Value{Kind: 4, S: strings.Repeat("x", 65)}, api.ErrArg},
	} {
		if got := Check(c.v); got != c.want {
			t.Errorf("Check(%+v) = %d, want %d", c.v, got, c.want)
		}
	}
}

// TestCmp holds P1.2, of values.
func TestCmp(t *testing.T) {
	// These rise: by Kinds, then N, then S, whether they may be or not.
	rising := []api.Value{
		{Kind: math.MinInt64, N: 9, S: "z"},
		{Kind: -1, N: math.MaxInt64},
		nothing,
		{S: "a"},
		{N: 1},
		num(math.MinInt64),
		num(-1),
		num(0),
		{Kind: api.TInt, S: "a"},
		num(1),
		num(10),
		num(math.MaxInt64),
		truth(0),
		truth(1),
		{Kind: api.TText, N: -1, S: "b"},
		text(""),
		text("\x00"),
		text("10"),
		text("9"),
		text("B"),
		text("a"),
		text("a\x00"),
		text("aa"),
		text("b"),
		text("\x7f"),
		text("é"),
		text("\xff"),
		{Kind: api.TText, N: 1},
		{Kind: 4},
		{Kind: math.MaxInt64},
	}
	for i, a := range rising {
		for j, b := range rising {
			want := sign(i - j)
			if got := Cmp(a, b); got != want {
				t.Errorf("Cmp(%+v, %+v) = %d, want %d", a, b, got, want)
			}
		}
	}
}

func sign(n int) int {
	switch {
	case n < 0:
		return -1
	case n > 0:
		return 1
	}
	return 0
}

// TestRows holds P1.2, of rows.
func TestRows(t *testing.T) {
	rising := [][]api.Value{
		{},
		{{Kind: -1}, text("z")},
		{nothing},
		{nothing, nothing},
		{nothing, num(5)},
		{num(1)},
		{num(1), nothing},
		{num(1), num(0)},
		{num(1), num(0), num(-9)},
		{num(1), num(2)},
		{num(2)},
		{num(2), num(-1)},
		{text("a"), num(9)},
		{text("ab")},
		slices.Repeat([]api.Value{text("b")}, 9),
		slices.Repeat([]api.Value{text("b")}, 10),
	}
	for i, a := range rising {
		for j, b := range rising {
			want := sign(i - j)
			if got := Rows(a, b); got != want {
				t.Errorf("Rows(%+v, %+v) = %d, want %d", a, b, got, want)
			}
		}
	}
	if Rows(nil, []api.Value{}) != 0 || Rows([]api.Value{}, nil) != 0 || Rows(nil, nil) != 0 {
		t.Error("a list that holds nothing may be nil or empty")
	}
}

func exact(op, a, b int) (api.Value, api.Errno) {
	x, y, z := big.NewInt(int64(a)), big.NewInt(int64(b)), new(big.Int)
	switch op {
	case api.EAdd:
		z.Add(x, y)
	case api.ESub:
		z.Sub(x, y)
	case api.EMul:
		z.Mul(x, y)
	}
	if !z.IsInt64() {
		return api.Value{}, api.ErrOverflow
	}
	return num(int(z.Int64())), api.OK
}

// TestCalc holds P1.3: each answer is the exact one.
func TestCalc(t *testing.T) {
	for _, op := range []int{api.EAdd, api.ESub, api.EMul} {
		for _, a := range edges() {
			for _, b := range edges() {
				want, wantErr := exact(op, a, b)
				if got, err := Calc(op, num(a), num(b)); got != want || err != wantErr {
					t.Errorf("Calc(%d, %d, %d) = %+v, %d, want %+v, %d", op, a, b, got, err, want, wantErr)
				}
			}
		}
	}
}

// TestCalcEnds holds P1.3 where the chapter's examples, and the ends, are.
func TestCalcEnds(t *testing.T) {
	for _, c := range []struct {
		op, a, b int
		want     api.Value
		err      api.Errno
	}{
		{api.EAdd, 2, 3, num(5), api.OK},
		{api.ESub, 2, 3, num(-1), api.OK},
		{api.EMul, -2, 3, num(-6), api.OK},
		{api.EAdd, math.MaxInt64, 1, nothing, api.ErrOverflow},
		{api.EAdd, math.MinInt64, -1, nothing, api.ErrOverflow},
		{api.EAdd, math.MinInt64, math.MaxInt64, num(-1), api.OK},
		{api.ESub, -1, math.MinInt64, num(math.MaxInt64), api.OK},
		{api.ESub, 0, math.MinInt64, nothing, api.ErrOverflow},
		{api.EMul, -1 << 62, 2, num(math.MinInt64), api.OK},
		{api.EMul, 1 << 62, 2, nothing, api.ErrOverflow},
		{api.EMul, -1 << 62, -2, nothing, api.ErrOverflow},
		{api.EMul, math.MinInt64, -1, nothing, api.ErrOverflow},
		{api.EMul, math.MinInt64, 1, num(math.MinInt64), api.OK},
		{api.EMul, math.MinInt64, 0, num(0), api.OK},
		{api.EMul, 1 << 32, 1 << 32, nothing, api.ErrOverflow},
		{api.EMul, math.MinInt64, math.MinInt64, nothing, api.ErrOverflow},
	} {
		if got, err := Calc(c.op, num(c.a), num(c.b)); got != c.want || err != c.err {
			t.Errorf("Calc(%d, %d, %d) = %+v, %d, want %+v, %d", c.op, c.a, c.b, got, err, c.want, c.err)
		}
	}
}

// TestCalcErrors holds P1.3's errors, in the order in which it names them, of all kinds of values.
func TestCalcErrors(t *testing.T) {
	for _, op := range []int{math.MinInt64, -1, 0, api.EColumn, api.EValue, api.EAdd, api.ESub, api.EMul, api.ENeg, 7, math.MaxInt64} {
		for _, a := range raw() {
			for _, b := range []api.Value{nothing, {N: 7, S: "a"}, num(3), {Kind: api.TInt, N: 3, S: "a"}, truth(1), text("3"), {Kind: 4}, {Kind: -1}} {
				want, wantErr := expected(op, a, b)
				if got, err := Calc(op, a, b); got != want || err != wantErr {
					t.Errorf("Calc(%d, %+v, %+v) = %+v, %d, want %+v, %d", op, a, b, got, err, want, wantErr)
				}
				want, wantErr = expected(op, b, a)
				if got, err := Calc(op, b, a); got != want || err != wantErr {
					t.Errorf("Calc(%d, %+v, %+v) = %+v, %d, want %+v, %d", op, b, a, got, err, want, wantErr)
				}
			}
		}
	}
}

func expected(op int, a, b api.Value) (api.Value, api.Errno) {
	switch {
	case op < api.EAdd || op > api.EMul:
		return api.Value{}, api.ErrArg
	case a.Kind < api.TAny || a.Kind > api.TInt || b.Kind < api.TAny || b.Kind > api.TInt:
		return api.Value{}, api.ErrType
	case a.Kind == api.TAny || b.Kind == api.TAny:
		return api.Value{}, api.OK
	}
	return exact(op, a.N, b.N)
}

// TestNeg holds P1.3, of Neg.
func TestNeg(t *testing.T) {
	for _, n := range edges() {
		want, wantErr := exact(api.ESub, 0, n)
		if got, err := Neg(num(n)); got != want || err != wantErr {
			t.Errorf("Neg(%d) = %+v, %d, want %+v, %d", n, got, err, want, wantErr)
		}
	}
	for _, c := range []struct {
		v, want api.Value
		err     api.Errno
	}{
		{num(5), num(-5), api.OK},
		{num(0), num(0), api.OK},
		{num(math.MaxInt64), num(math.MinInt64 + 1), api.OK},
		{num(math.MinInt64), nothing, api.ErrOverflow},
		{nothing, nothing, api.OK},
		{api.Value{N: 3, S: "a"}, nothing, api.OK},
		{api.Value{Kind: api.TInt, N: 3, S: "a"}, num(-3), api.OK},
		{truth(1), nothing, api.ErrType},
		{text("1"), nothing, api.ErrType},
		{api.Value{Kind: 4}, nothing, api.ErrType},
		{api.Value{Kind: -1}, nothing, api.ErrType},
	} {
		if got, err := Neg(c.v); got != c.want || err != c.err {
			t.Errorf("Neg(%+v) = %+v, %d, want %+v, %d", c.v, got, err, c.want, c.err)
		}
	}
}

// TestPrint holds P1.4.
func TestPrint(t *testing.T) {
	for _, c := range []struct {
		v    api.Value
		want string
	}{
		{num(0), "0"},
		{num(7), "7"},
		{num(-7), "-7"},
		{num(1200), "1200"},
		{num(math.MaxInt64), "9223372036854775807"},
		{num(math.MinInt64), "-9223372036854775808"},
		{api.Value{Kind: api.TInt, N: 4, S: "a"}, "4"},
		{truth(1), "true"},
		{truth(0), "false"},
		{truth(2), "false"},
		{truth(-1), "false"},
		{text(""), "''"},
		{text("abc"), "'abc'"},
		{text("it's"), "'it''s'"},
		{text("'"), "''''"},
		{text("''"), "''''''"},
		{text("null"), "'null'"},
		{text("a\nb\x00\xff\"\\"), "'a\nb\x00\xff\"\\'"},
		{api.Value{Kind: api.TText, N: 3, S: "a"}, "'a'"},
		{text(strings.Repeat("'", 65)), strings.Repeat("'", 132)},
		{nothing, "null"},
		{api.Value{N: 1, S: "a"}, "null"},
		{api.Value{Kind: 4, N: 1, S: "a"}, "null"},
		{api.Value{Kind: -1}, "null"},
	} {
		if got := Print(c.v); got != c.want {
			t.Errorf("Print(%+v) = %q, want %q", c.v, got, c.want)
		}
	}
}

// TestOneOrder holds P1.5: of any values each two stand one way, and the ways go together.
func TestOneOrder(t *testing.T) {
	l := raw()
	for _, a := range l {
		for _, b := range l {
			c := Cmp(a, b)
			if c != -Cmp(b, a) || (c == 0) != (a == b) || c < -1 || c > 1 {
				t.Fatalf("Cmp(%+v, %+v) = %d, the other way round %d", a, b, c, Cmp(b, a))
			}
			if r := Rows([]api.Value{num(1), a}, []api.Value{num(1), b}); r != c {
				t.Fatalf("Rows that end in %+v and %+v: %d, want %d", a, b, r, c)
			}
		}
	}
	sorted := slices.Clone(l)
	slices.SortFunc(sorted, Cmp)
	for i, a := range sorted {
		for j, b := range sorted {
			if got := Cmp(a, b); got != sign(i-j) {
				t.Fatalf("sorted %d, %d: Cmp(%+v, %+v) = %d", i, j, a, b, got)
			}
		}
	}
}

// TestTakenAway holds P1.5: what is added is taken away again.
func TestTakenAway(t *testing.T) {
	for _, a := range edges() {
		for _, b := range edges() {
			sum, err := Calc(api.EAdd, num(a), num(b))
			if err != api.OK {
				continue
			}
			if back, err := Calc(api.ESub, sum, num(b)); back != num(a) || err != api.OK {
				t.Errorf("%d + %d - %d = %+v, %d", a, b, b, back, err)
			}
		}
	}
}

// TestUnlikePrints holds P1.5: unlike values that may be are printed in unlike ways.
func TestUnlikePrints(t *testing.T) {
	l := raw()
	for _, n := range edges() {
		l = append(l, num(n), text(Print(num(n))), text("'"+Print(num(n))))
	}
	for _, s := range []string{"true", "false", "null", "''", "'''", "''''", "'a'", "a'b", "a''b"} {
		l = append(l, text(s))
	}
	seen := map[string]api.Value{}
	for _, v := range l {
		if Check(v) != api.OK {
			continue
		}
		s := Print(v)
		if other, there := seen[s]; there && other != v {
			t.Errorf("%+v and %+v are both printed as %s", other, v, s)
		}
		seen[s] = v
	}
}

// TestAnyArguments holds P1: nothing that is handed in makes a call panic, or is changed.
func TestAnyArguments(t *testing.T) {
	l := raw()
	before := slices.Clone(l)
	for _, v := range l {
		Check(v)
		Neg(v)
		Print(v)
	}
	for i := range l {
		Rows(l[i:], l[:i])
		Rows(l[:i], l)
	}
	if !slices.Equal(l, before) {
		t.Error("what was handed in was changed")
	}
}
