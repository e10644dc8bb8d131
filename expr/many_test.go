package expr

import (
	"maps"
	"math"
	"math/big"
	"math/rand"
	"slices"
	"testing"

	"belvedere/api"
	"belvedere/value"
)

// maker makes expressions, conditions and rows, of any kinds and any number of arguments, most of them right.
type maker struct{ r *rand.Rand }

// any is a number from least to most, or at times another one.
func (m maker) any(least, most int) int {
	if m.r.Intn(20) == 0 {
		return []int{math.MinInt, -1, 0, most + 1, 257, math.MaxInt}[m.r.Intn(6)]
	}
	return least + m.r.Intn(most-least+1)
}

// count is right, or at times from 0 to 3.
func (m maker) count(right int) int {
	if m.r.Intn(12) == 0 {
		return m.r.Intn(4)
	}
	return right
}

func (m maker) value() api.Value {
	switch m.r.Intn(12) {
	case 0:
		return nothing
	case 1:
		return held(m.r.Intn(2))
	case 2:
		return text([]string{"", "a", "ab"}[m.r.Intn(3)])
	case 3:
		return num([]int{math.MinInt, math.MaxInt, 1 << 62, -1 << 62, 1 << 31}[m.r.Intn(5)])
	case 4:
		return odd()[m.r.Intn(len(odd()))]
	}
	return num(m.r.Intn(7) - 3)
}

func (m maker) row(n int) []api.Value {
	var row []api.Value
	for range n {
		row = append(row, m.value())
	}
	return row
}

func (m maker) leaf() api.Calc {
	if m.r.Intn(3) == 0 {
		return val(m.value())
	}
	return col(m.any(0, 5))
}

func (m maker) calc(size int) api.Calc {
	if size == 0 || m.r.Intn(4) == 0 {
		return m.leaf()
	}
	e := api.Calc{Kind: m.any(api.EAdd, api.ENeg), At: m.r.Intn(6), Val: m.value()}
	right := 2
	if e.Kind == api.ENeg {
		right = 1
	}
	for range m.count(right) {
		e.Args = append(e.Args, m.calc(size-1))
	}
	return e
}

func (m maker) side() api.Calc {
	if m.r.Intn(6) == 0 {
		return m.calc(2)
	}
	return m.leaf()
}

func (m maker) test(size int) api.Test {
	if size == 0 || m.r.Intn(5) == 0 {
		return api.Test{Kind: m.any(api.CNone, api.CSome), Op: m.any(api.OpEq, api.OpGe), L: m.side(), R: m.side()}
	}
	c := api.Test{Kind: m.any(api.CAnd, api.CNot)}
	if m.r.Intn(3) > 0 {
		c.Kind = api.CAnd
	}
	if m.r.Intn(8) == 0 {
		c.Op, c.L, c.R = m.r.Intn(8), m.side(), m.side()
	}
	right := m.r.Intn(4)
	if c.Kind == api.CNot {
		right = 1
	}
	for range m.count(right) {
		c.Args = append(c.Args, m.test(size-1))
	}
	return c
}

// reckonedBy tells what Eval tells by the chapter's words, in exact numbers.
func reckonedBy(e api.Calc, row []api.Value) (api.Value, api.Errno) {
	if e.Kind == api.EValue {
		return e.Val, api.OK
	}
	if e.Kind == api.EColumn {
		for at, v := range row {
			if at == e.At {
				return v, api.OK
			}
		}
		return nothing, api.ErrType
	}
	wanted := map[int]int{api.EAdd: 2, api.ESub: 2, api.EMul: 2, api.ENeg: 1}[e.Kind]
	if wanted == 0 || wanted != len(e.Args) {
		return nothing, api.ErrType
	}
	var of []api.Value
	for _, a := range e.Args {
		v, err := reckonedBy(a, row)
		if err != api.OK {
			return nothing, err
		}
		of = append(of, v)
	}
	return exact(e.Kind, of)
}

func exact(kind int, of []api.Value) (api.Value, api.Errno) {
	one := func(kind int) func(v api.Value) bool { return func(v api.Value) bool { return v.Kind == kind } }
	none := func(v api.Value) bool { return v.Kind != api.TInt && v.Kind != api.TAny }
	if slices.ContainsFunc(of, none) {
		return nothing, api.ErrType
	}
	if slices.ContainsFunc(of, one(api.TAny)) {
		return nothing, api.OK
	}
	a, b := big.NewInt(0), big.NewInt(int64(of[len(of)-1].N))
	if len(of) == 2 {
		a.SetInt64(int64(of[0].N))
	}
	switch kind {
	case api.EAdd:
		a.Add(a, b)
	case api.EMul:
		a.Mul(a, b)
	default:
		a.Sub(a, b)
	}
	if !a.IsInt64() {
		return nothing, api.ErrOverflow
	}
	return num(int(a.Int64())), api.OK
}

// standsBy tells what Holds tells by the chapter's words: by how many of the Args stand in which way.
func standsBy(c api.Test, row []api.Value) int {
	ways := [3]int{}
	for _, a := range c.Args {
		ways[standsBy(a, row)]++
	}
	l, r := sideBy(c.L, row), sideBy(c.R, row)
	switch {
	case c.Kind == api.CNone,
		c.Kind == api.CNull && l.Kind == 0,
		c.Kind == api.CSome && l.Kind != 0,
		c.Kind == api.CAnd && ways[0]+ways[1] == 0,
		c.Kind == api.COr && ways[2] > 0,
		c.Kind == api.CNot && ways == [3]int{1, 0, 0},
		c.Kind == api.CCompare && compares(c.Op, l, r) && meets(c.Op, value.Cmp(l, r)):
		return 2
	case c.Kind == api.CNull, c.Kind == api.CSome,
		c.Kind == api.CAnd && ways[0] > 0,
		c.Kind == api.COr && ways[1] == 0,
		c.Kind == api.CNot && ways == [3]int{0, 0, 1},
		c.Kind == api.CCompare && compares(c.Op, l, r):
		return 0
	}
	return 1
}

func compares(op int, a, b api.Value) bool {
	return op >= 1 && op <= 6 && a.Kind != 0 && a.Kind == b.Kind
}

func meets(op, order int) bool {
	return slices.Contains([][]int{{0}, {-1, 1}, {-1}, {-1, 0}, {1}, {0, 1}}[op-1], order)
}

func sideBy(e api.Calc, row []api.Value) api.Value {
	if e.Kind > api.EValue {
		return nothing
	}
	v, _ := reckonedBy(e, row)
	return v
}

// seen are the places of all columns in e.
func seen(l ...api.Calc) map[int]bool {
	at := map[int]bool{}
	for _, e := range l {
		if e.Kind == api.EColumn {
			at[e.At] = true
		}
		maps.Copy(at, seen(e.Args...))
	}
	return at
}

func seenOf(c api.Test) map[int]bool {
	at := seen(c.L, c.R)
	for _, a := range c.Args {
		maps.Copy(at, seenOf(a))
	}
	return at
}

func sorted(at map[int]bool) []int { return slices.Sorted(maps.Keys(at)) }

// TestManyExpressions holds P11.1 against the model, over many rows.
func TestManyExpressions(t *testing.T) {
	m := maker{rand.New(rand.NewSource(1))}
	came := map[api.Errno]int{}
	for range 20000 {
		e, row := m.calc(m.r.Intn(5)), m.row(m.r.Intn(8))
		want, wantErr := reckonedBy(e, row)
		if got, err := Eval(e, row); got != want || err != wantErr {
			t.Fatalf("Eval(%+v, %+v) = %+v, %d, want %+v, %d", e, row, got, err, want, wantErr)
		}
		if got, want := Reads(e), sorted(seen(e)); !slices.Equal(got, want) {
			t.Fatalf("Reads(%+v) = %v, want %v", e, got, want)
		}
		came[wantErr]++
	}
	for _, err := range []api.Errno{api.OK, api.ErrType, api.ErrOverflow} {
		if came[err] < 200 {
			t.Errorf("only %d came to %d", came[err], err)
		}
	}
}

// TestManyConditions holds P11.2 against the model, over many rows.
func TestManyConditions(t *testing.T) {
	m := maker{rand.New(rand.NewSource(2))}
	came := [3]int{}
	for range 20000 {
		c, row := m.test(m.r.Intn(5)), m.row(m.r.Intn(8))
		want := standsBy(c, row)
		if got := Holds(c, row); got != want {
			t.Fatalf("Holds(%+v, %+v) = %d, want %d", c, row, got, want)
		}
		if got, want := Asks(c), sorted(seenOf(c)); !slices.Equal(got, want) {
			t.Fatalf("Asks(%+v) = %v, want %v", c, got, want)
		}
		came[want]++
	}
	for truth, n := range came {
		if n < 1000 {
			t.Errorf("only %d stood at %d", n, truth)
		}
	}
}

// TestBothHoldsWhereTheConditionDoes holds P11.4, and that no and stands open in what Both tells.
func TestBothHoldsWhereTheConditionDoes(t *testing.T) {
	m := maker{rand.New(rand.NewSource(3))}
	several := 0
	for range 4000 {
		c := m.test(m.r.Intn(5))
		l := Both(c)
		if len(l) > 1 {
			several++
		}
		for range 20 {
			row := m.row(m.r.Intn(8))
			all := true
			for _, a := range l {
				all = all && Holds(a, row) == api.True
			}
			if all != (Holds(c, row) == api.True) {
				t.Fatalf("over %+v all of %+v: %t, but %+v: %d", row, l, all, c, Holds(c, row))
			}
		}
		for _, a := range l {
			if a.Kind == api.CNone || a.Kind == api.CAnd {
				t.Fatalf("Both(%+v) has %+v", c, a)
			}
			if !likes(Both(a), []api.Test{a}) {
				t.Fatalf("Both(%+v) has %+v, which isn't alone", c, a)
			}
		}
	}
	if several < 400 {
		t.Errorf("only %d were of several", several)
	}
}

// turned is row with other values at all places but those of keep, and cut or grown where no place of keep is.
func (m maker) turned(row []api.Value, keep []int) []api.Value {
	other := m.row(len(row))
	least, grows := 0, true
	for _, at := range keep {
		if at >= 0 && at < len(row) {
			other[at] = row[at]
			least = max(least, at+1)
		}
		grows = grows && at < len(row)
	}
	if m.r.Intn(2) == 0 {
		return other[:least+m.r.Intn(len(row)-least+1)]
	}
	if grows {
		other = append(other, m.row(m.r.Intn(3))...)
	}
	return other
}

// TestOnlyWhatIsReadCounts holds P11.4: nothing turns when columns that aren't read do.
func TestOnlyWhatIsReadCounts(t *testing.T) {
	m := maker{rand.New(rand.NewSource(4))}
	for range 5000 {
		e, c, row := m.calc(m.r.Intn(4)), m.test(m.r.Intn(4)), m.row(m.r.Intn(8))
		v, err := Eval(e, row)
		truth := Holds(c, row)
		for range 5 {
			other := m.turned(row, Reads(e))
			if got, gotErr := Eval(e, other); got != v || gotErr != err {
				t.Fatalf("Eval(%+v) over %+v: %+v, %d; over %+v: %+v, %d", e, row, v, err, other, got, gotErr)
			}
			other = m.turned(row, Asks(c))
			if got := Holds(c, other); got != truth {
				t.Fatalf("Holds(%+v) over %+v: %d; over %+v: %d", c, row, truth, other, got)
			}
		}
	}
}

// TestWhatIsReadCounts holds the other side: a column that is read can turn what is said.
func TestWhatIsReadCounts(t *testing.T) {
	for at := range 6 {
		row := []api.Value{num(0), num(0), num(0), num(0), num(0), num(0)}
		row[at] = num(3)
		evals(t, add(col(at), lit(1)), row, num(4), api.OK)
		stands(t, compared(api.OpEq, col(at), lit(3)), row, api.True)
		row[at] = num(4)
		evals(t, add(col(at), lit(1)), row, num(5), api.OK)
		stands(t, compared(api.OpEq, col(at), lit(3)), row, api.False)
	}
}

// TestDeep holds P1 of what is nested as deep as may be.
func TestDeep(t *testing.T) {
	const deep = 1<<16 - 2
	left, right, down := col(0), col(0), col(0)
	both, neither := compared(api.OpLt, col(0), lit(9)), null(col(0))
	for i := range deep {
		left, right, down = add(left, lit(1)), sub(lit(1), right), neg(down)
		both = and(both, some(col(1)))
		if i%2 == 0 {
			neither = or(neither, null(col(2)))
		} else {
			neither = not(neither)
		}
	}
	row := []api.Value{num(5), num(1), num(0)}
	evals(t, left, row, num(5+deep), api.OK)
	evals(t, right, row, num(5), api.OK)
	evals(t, down, row, num(5), api.OK)
	stands(t, both, row, api.True)
	// Each second one turns it round: it's True behind deep/2 of them, an odd number.
	stands(t, neither, row, api.True)
	for _, e := range []api.Calc{left, right, down} {
		if got := Reads(e); !slices.Equal(got, []int{0}) {
			t.Errorf("%d places are read", len(got))
		}
	}
	if got := Asks(both); !slices.Equal(got, []int{0, 1}) {
		t.Errorf("%d places are asked for", len(got))
	}
	if got := Asks(neither); !slices.Equal(got, []int{0, 2}) {
		t.Errorf("%d places are asked for", len(got))
	}
	if got := Both(both); len(got) != deep+1 || !like(got[0], compared(api.OpLt, col(0), lit(9))) || !like(got[deep], some(col(1))) {
		t.Errorf("%d parts", len(got))
	}
	if got := Both(neither); len(got) != 1 || !like(got[0], neither) {
		t.Errorf("%d parts", len(got))
	}
}

// TestWide holds P1 of very many Args.
func TestWide(t *testing.T) {
	const wide = 200000
	var args []api.Calc
	var tests []api.Test
	for i := range wide {
		args = append(args, col((wide-i)/2))
		tests = append(tests, some(col(i%7)))
	}
	row := slices.Repeat([]api.Value{num(1)}, 7)
	fails(t, calc(api.EAdd, args...), row, api.ErrType)
	if got := Reads(calc(api.EAdd, args...)); len(got) != wide/2+1 || got[0] != 0 || !slices.IsSorted(got) {
		t.Errorf("%d places are read", len(got))
	}
	stands(t, and(tests...), row, api.True)
	stands(t, and(tests...), row[:6], api.False)
	stands(t, or(tests...), row[:1], api.True)
	stands(t, or(tests...), nil, api.False)
	if got := Asks(or(tests...)); !slices.Equal(got, []int{0, 1, 2, 3, 4, 5, 6}) {
		t.Errorf("Asks: %v", got)
	}
	if got := Both(and(tests...)); !likes(got, tests) {
		t.Errorf("%d parts", len(got))
	}
}
