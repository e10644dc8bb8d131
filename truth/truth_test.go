package truth

import (
	"math"
	"slices"
	"strings"
	"testing"

	"belvedere/api"
	"belvedere/value"
)

func num(n int) api.Value     { return api.Value{Kind: api.TInt, N: n} }
func held(n int) api.Value    { return api.Value{Kind: api.TBool, N: n} }
func text(s string) api.Value { return api.Value{Kind: api.TText, S: s} }

var nothing = api.Value{}

// ops are all comparisons, and numbers that are none.
func ops() []int {
	return []int{math.MinInt, -6, -1, 0, api.OpEq, api.OpNe, api.OpLt, api.OpLe, api.OpGt, api.OpGe, 7, 8, 257, math.MaxInt}
}

// numbers are the truths, and numbers that are none.
func numbers() []int {
	return []int{math.MinInt, -2, -1, api.False, api.Unknown, api.True, 3, 9, 256, 258, math.MaxInt}
}

// raw is all that a struct may hold, right or wrong.
func raw() []api.Value {
	var l []api.Value
	for _, k := range []int{math.MinInt, -1, api.TAny, api.TInt, api.TBool, api.TText, 4, math.MaxInt} {
		for _, n := range []int{math.MinInt, -1, 0, 1, 2, math.MaxInt} {
			for _, s := range []string{"", "a", "ab", "b", "\x00", "\xff", strings.Repeat("x", 65)} {
				l = append(l, api.Value{Kind: k, N: n, S: s})
			}
		}
	}
	return l
}

// TestCompareOrdinary holds P2.1: each comparison of values that stand ahead, are the same, stand behind.
func TestCompareOrdinary(t *testing.T) {
	for _, pair := range [][2]api.Value{
		{num(0), num(3)},
		{num(-1), num(0)},
		{num(math.MinInt), num(math.MaxInt)},
		{held(0), held(1)},
		{text(""), text("a")},
		{text("a"), text("ab")},
		{text("10"), text("9")},
		{text("Z"), text("a")},
		{text("\x7f"), text("\xff")},
	} {
		a, b := pair[0], pair[1]
		for _, c := range []struct{ op, ahead, same, behind int }{
			{api.OpEq, api.False, api.True, api.False},
			{api.OpNe, api.True, api.False, api.True},
			{api.OpLt, api.True, api.False, api.False},
			{api.OpLe, api.True, api.True, api.False},
			{api.OpGt, api.False, api.False, api.True},
			{api.OpGe, api.False, api.True, api.True},
		} {
			if got := Compare(c.op, a, b); got != c.ahead {
				t.Errorf("Compare(%d, %+v, %+v) = %d, want %d", c.op, a, b, got, c.ahead)
			}
			if got := Compare(c.op, b, a); got != c.behind {
				t.Errorf("Compare(%d, %+v, %+v) = %d, want %d", c.op, b, a, got, c.behind)
			}
			if got := Compare(c.op, a, a); got != c.same {
				t.Errorf("Compare(%d, %+v, %+v) = %d, want %d", c.op, a, a, got, c.same)
			}
		}
	}
}

// TestCompareUnknown holds P2.1 where there is no answer.
func TestCompareUnknown(t *testing.T) {
	for _, op := range ops() {
		for _, pair := range [][2]api.Value{
			{nothing, nothing},
			{num(3), nothing},
			{held(0), nothing},
			{text(""), nothing},
			{{N: 1}, {N: 1}},
			{{S: "a"}, num(1)},
			{num(1), held(1)},
			{num(1), text("1")},
			{num(0), text("")},
			{held(1), text("true")},
			{{Kind: 4}, {Kind: 5}},
			{{Kind: 4}, nothing},
			{{Kind: -1}, num(0)},
		} {
			if got := Compare(op, pair[0], pair[1]); got != api.Unknown {
				t.Errorf("Compare(%d, %+v, %+v) = %d, want Unknown", op, pair[0], pair[1], got)
			}
			if got := Compare(op, pair[1], pair[0]); got != api.Unknown {
				t.Errorf("Compare(%d, %+v, %+v) = %d, want Unknown", op, pair[1], pair[0], got)
			}
		}
	}
	for _, op := range ops() {
		if op >= api.OpEq && op <= api.OpGe {
			continue
		}
		for _, b := range []api.Value{num(1), num(2), held(1), text("a"), nothing} {
			if got := Compare(op, num(1), b); got != api.Unknown {
				t.Errorf("Compare(%d, 1, %+v) = %d, want Unknown", op, b, got)
			}
		}
	}
}

// TestCompareAnything holds P2.1 of any raw values: it is layer 1's order that decides.
func TestCompareAnything(t *testing.T) {
	for _, a := range raw() {
		for _, b := range raw() {
			for _, op := range ops() {
				if got, want := Compare(op, a, b), expected(op, a, b); got != want {
					t.Fatalf("Compare(%d, %+v, %+v) = %d, want %d", op, a, b, got, want)
				}
			}
		}
	}
}

func expected(op int, a, b api.Value) int {
	if a.Kind == 0 || b.Kind == 0 || a.Kind != b.Kind || op < 1 || op > 6 {
		return 1
	}
	// For each comparison the orders at which it holds.
	holds := [][]int{{0}, {-1, 1}, {-1}, {-1, 0}, {1}, {0, 1}}
	if slices.Contains(holds[op-1], value.Cmp(a, b)) {
		return 2
	}
	return 0
}

// TestTurnOther holds P2.1, of Turn and Other.
func TestTurnOther(t *testing.T) {
	for _, c := range []struct{ op, turn, other int }{
		{api.OpEq, api.OpEq, api.OpNe},
		{api.OpNe, api.OpNe, api.OpEq},
		{api.OpLt, api.OpGt, api.OpGe},
		{api.OpLe, api.OpGe, api.OpGt},
		{api.OpGt, api.OpLt, api.OpLe},
		{api.OpGe, api.OpLe, api.OpLt},
		{0, 0, 0},
		{7, 0, 0},
		{-1, 0, 0},
		{-3, 0, 0},
		{257, 0, 0},
		{math.MinInt, 0, 0},
		{math.MaxInt, 0, 0},
	} {
		if got := Turn(c.op); got != c.turn {
			t.Errorf("Turn(%d) = %d, want %d", c.op, got, c.turn)
		}
		if got := Other(c.op); got != c.other {
			t.Errorf("Other(%d) = %d, want %d", c.op, got, c.other)
		}
	}
}

// TestAndOr holds P2.2, of And and Or.
func TestAndOr(t *testing.T) {
	for _, c := range []struct {
		l       []int
		and, or int
	}{
		{nil, api.True, api.False},
		{[]int{}, api.True, api.False},
		{[]int{api.False}, api.False, api.False},
		{[]int{api.Unknown}, api.Unknown, api.Unknown},
		{[]int{api.True}, api.True, api.True},
		{[]int{api.False, api.Unknown}, api.False, api.Unknown},
		{[]int{api.False, api.True}, api.False, api.True},
		{[]int{api.True, api.False}, api.False, api.True},
		{[]int{api.True, api.Unknown}, api.Unknown, api.True},
		{[]int{api.Unknown, api.True}, api.Unknown, api.True},
		{[]int{api.True, api.True, api.True}, api.True, api.True},
		{[]int{api.False, api.False}, api.False, api.False},
		{[]int{api.True, api.Unknown, api.False}, api.False, api.True},
		{[]int{9}, api.Unknown, api.Unknown},
		{[]int{-1}, api.Unknown, api.Unknown},
		{[]int{-1, api.True}, api.Unknown, api.True},
		{[]int{-1, api.False}, api.False, api.Unknown},
		{[]int{3, api.False}, api.False, api.Unknown},
		{[]int{3, api.True}, api.Unknown, api.True},
		{[]int{math.MaxInt, math.MinInt}, api.Unknown, api.Unknown},
		{slices.Repeat([]int{api.True}, 5000), api.True, api.True},
		{append(slices.Repeat([]int{api.True}, 5000), api.False), api.False, api.True},
	} {
		if got := And(c.l); got != c.and {
			t.Errorf("And(%v) = %d, want %d", c.l, got, c.and)
		}
		if got := Or(c.l); got != c.or {
			t.Errorf("Or(%v) = %d, want %d", c.l, got, c.or)
		}
	}
}

// TestNot holds P2.2, of Not.
func TestNot(t *testing.T) {
	for _, n := range numbers() {
		want := api.Unknown
		switch n {
		case api.False:
			want = api.True
		case api.True:
			want = api.False
		}
		if got := Not(n); got != want {
			t.Errorf("Not(%d) = %d, want %d", n, got, want)
		}
	}
}

// TestTurnedAndOther holds P2.3, of comparisons.
func TestTurnedAndOther(t *testing.T) {
	for _, op := range ops() {
		for _, a := range raw() {
			for _, b := range raw() {
				got := Compare(op, a, b)
				if turned := Compare(Turn(op), b, a); turned != got {
					t.Fatalf("of %d, %+v, %+v: %d, turned %d", op, a, b, got, turned)
				}
				if other := Compare(Other(op), a, b); other != Not(got) {
					t.Fatalf("of %d, %+v, %+v: %d, the other %d", op, a, b, got, other)
				}
			}
		}
	}
}

// TestNotOfAnd holds P2.3, of lists: Not of an And is the Or of the Nots, and the other way round.
func TestNotOfAnd(t *testing.T) {
	lists := [][]int{nil, {}}
	for _, a := range numbers() {
		lists = append(lists, []int{a})
		for _, b := range numbers() {
			lists = append(lists, []int{a, b})
			for _, c := range numbers() {
				lists = append(lists, []int{a, b, c})
			}
		}
	}
	for _, l := range lists {
		before := slices.Clone(l)
		nots := make([]int, len(l))
		for i, n := range l {
			nots[i] = Not(n)
		}
		if Not(And(l)) != Or(nots) || Not(Or(l)) != And(nots) {
			t.Errorf("%v: and %d, or %d; of the nots %d, %d", l, And(l), Or(l), And(nots), Or(nots))
		}
		if !slices.Equal(l, before) {
			t.Errorf("%v was changed into %v", before, l)
		}
	}
}
