package bag

import (
	"math"
	"math/big"
	"math/rand"
	"slices"
	"strings"
	"testing"

	"belvedere/api"
	"belvedere/value"
)

func num(n int) api.Value            { return api.Value{Kind: api.TInt, N: n} }
func held(n int) api.Value           { return api.Value{Kind: api.TBool, N: n} }
func text(s string) api.Value        { return api.Value{Kind: api.TText, S: s} }
func row(l ...api.Value) []api.Value { return l }

// many is a row that is there n times.
func many(n int, l ...api.Value) api.Many { return api.Many{Row: l, N: n} }

// put is the row of one number, n times.
func put(n, a int) api.Many { return many(n, num(a)) }

func bag(l ...api.Many) []api.Many { return l }

var nothing = api.Value{}

const (
	most  = api.MaxMany
	bound = 1 << 60 // of a sum
)

func sameMany(a, b api.Many) bool { return a.N == b.N && slices.Equal(a.Row, b.Row) }

func same(a, b []api.Many) bool { return slices.EqualFunc(a, b, sameMany) }

func sameRows(a, b [][]api.Value) bool { return slices.EqualFunc(a, b, slices.Equal[[]api.Value]) }

// copied is l in memory of its own.
func copied(l []api.Many) []api.Many {
	var c []api.Many
	for _, m := range l {
		c = append(c, many(m.N, slices.Clone(m.Row)...))
	}
	return c
}

// summed tells what Of tells by the chapter's words: row by row, in exact numbers.
func summed(l []api.Many) []api.Many {
	var got []api.Many
	for i, m := range l {
		like := func(o api.Many) bool { return slices.Equal(o.Row, m.Row) }
		if slices.ContainsFunc(l[:i], like) {
			continue
		}
		n := new(big.Int)
		for _, o := range l[i:] {
			if like(o) {
				n.Add(n, big.NewInt(int64(o.N)))
			}
		}
		if n.Sign() != 0 {
			got = append(got, many(int(n.Int64()), m.Row...))
		}
	}
	slices.SortFunc(got, func(a, b api.Many) int { return value.Rows(a.Row, b.Row) })
	return got
}

// rising are rows that rise, of any values, the row without values first.
func rising() [][]api.Value {
	l := [][]api.Value{
		{},
		{{Kind: -1, N: 9, S: "z"}},
		{nothing},
		{nothing, nothing},
		{{N: 1}},
		{num(math.MinInt)},
		{num(-1)},
		{num(0)},
		{num(0), nothing},
		{num(0), num(5)},
		{num(0), text("a")},
		{num(1)},
		{num(math.MaxInt)},
		{held(0)},
		{held(1)},
		{held(1), num(1)},
		{text("")},
		{text("\x00")},
		{text("1")},
		{text("B")},
		{text("a")},
		{text("a"), nothing},
		{text("ab")},
		{text("\xff")},
		{text(strings.Repeat("\xff", 65))},
		slices.Repeat(row(text("\xff\xff")), 8),
		slices.Repeat(row(text("\xff\xff")), 9),
		{{Kind: 4}},
	}
	slices.SortFunc(l, value.Rows)
	return l
}

// random is a list of few unlike rows, so that most come several times.
func random(r *rand.Rand) []api.Many {
	rows := rising()
	var l []api.Many
	for range r.Intn(40) {
		at := r.Intn(len(rows))
		if r.Intn(3) > 0 {
			at = r.Intn(4)
		}
		l = append(l, many(r.Intn(7)-3, rows[at]...))
	}
	return l
}

// wrong are lists that may not be.
func wrong() map[string][]api.Many {
	return map[string][]api.Many{
		"falls":                       bag(put(1, 2), put(1, 1)),
		"falls at the end":            bag(put(1, 1), put(1, 2), put(1, 4), put(1, 3)),
		"falls at the beginning":      bag(put(1, 2), put(1, 1), put(1, 3)),
		"a row twice":                 bag(put(1, 1), put(1, 1)),
		"a row twice, unlike numbers": bag(put(1, 1), put(2, 1)),
		"a row twice at the end":      bag(put(1, 0), put(1, 1), put(1, 1)),
		"no values twice":             bag(many(1), many(1)),
		"no values, nil and empty":    bag(api.Many{N: 1}, api.Many{Row: []api.Value{}, N: 1}),
		"no values last":              bag(put(1, 1), many(1)),
		"ahead of what begins it":     bag(many(1, num(1), nothing), put(1, 1)),
		"text ahead of number":        bag(many(1, text("1")), put(1, 2)),
		"number 0":                    bag(put(0, 1)),
		"number 0 of no values":       bag(many(0)),
		"number 0 first":              bag(put(0, 1), put(1, 2)),
		"number 0 last":               bag(put(1, 1), put(0, 2)),
		"past MaxMany":                bag(put(most+1, 1)),
		"past MaxMany below 0":        bag(put(-most-1, 1)),
		"past MaxMany last":           bag(put(1, 1), put(most+1, 2)),
		"the greatest number":         bag(put(math.MaxInt, 1)),
		"the least number":            bag(put(math.MinInt, 1)),
		"the least number last":       bag(put(1, 1), put(math.MinInt, 2)),
	}
}

// TestRight holds P4.1: Right, and Plain, of lists that may be.
func TestRight(t *testing.T) {
	for _, c := range []struct {
		l     []api.Many
		plain bool
	}{
		{nil, true},
		{bag(), true},
		{bag(put(1, 1)), true},
		{bag(put(-1, 1)), false},
		{bag(many(1)), true},
		{bag(many(-1)), false},
		{bag(many(2), many(1, nothing), put(3, 1)), true},
		{bag(put(1, 1), put(5, 2), put(most, 3)), true},
		{bag(put(-1, 1), put(1, 2), put(1, 3)), false},
		{bag(put(1, 1), put(-1, 2), put(1, 3)), false},
		{bag(put(1, 1), put(1, 2), put(-1, 3)), false},
		{bag(put(most, 1)), true},
		{bag(put(-most, 1)), false},
		{bag(put(most-1, 1), put(1-most, 2)), false},
		{bag(put(1, 1), many(1, num(1), nothing), many(1, num(1), num(0)), put(1, 2)), true},
		{bag(many(1, nothing), put(1, 5), many(1, held(0)), many(1, text(""))), true},
	} {
		if !Right(c.l) {
			t.Errorf("Right(%+v) is false", c.l)
		}
		if got := Plain(c.l); got != c.plain {
			t.Errorf("Plain(%+v) = %t, want %t", c.l, got, c.plain)
		}
	}
}

// TestWrong holds P4.1: Right, and Plain, of lists that may not be.
func TestWrong(t *testing.T) {
	for name, l := range wrong() {
		if Right(l) {
			t.Errorf("%s: Right(%+v) is true", name, l)
		}
		if Plain(l) {
			t.Errorf("%s: Plain(%+v) is true", name, l)
		}
	}
}

// TestRises holds P4.1: Right of each two rows, each way round.
func TestRises(t *testing.T) {
	rows := rising()
	for i, a := range rows {
		for j, b := range rows {
			if got := Right(bag(many(1, a...), many(-1, b...))); got != (i < j) {
				t.Errorf("Right of %+v ahead of %+v: %t", a, b, got)
			}
		}
	}
}

// TestOf holds P4.1, of Of.
func TestOf(t *testing.T) {
	for _, c := range []struct{ l, want []api.Many }{
		{nil, nil},
		{bag(), nil},
		{bag(put(1, 2), put(2, 1), put(-1, 2)), bag(put(2, 1))},
		{bag(put(3, 1)), bag(put(3, 1))},
		{bag(put(-3, 1)), bag(put(-3, 1))},
		{bag(put(0, 1)), nil},
		{bag(put(0, 1), put(0, 1)), nil},
		{bag(put(0, 1), put(2, 0), put(0, 2)), bag(put(2, 0))},
		{bag(put(1, 3), put(1, 1), put(1, 2)), bag(put(1, 1), put(1, 2), put(1, 3))},
		{bag(put(1, 1), put(2, 1), put(3, 1), put(4, 1), put(5, 1)), bag(put(15, 1))},
		{bag(put(1, 1), put(1, 1), put(-2, 1)), nil},
		{bag(put(1, 1), put(-1, 1), put(1, 1)), bag(put(1, 1))},
		{bag(put(1, 1), put(-2, 1)), bag(put(-1, 1))},
		{bag(put(1, 2), put(-1, 1), put(-1, 2), put(1, 1)), nil},
		{bag(many(1), many(1), many(1)), bag(many(3))},
		{bag(api.Many{N: 1}, api.Many{Row: []api.Value{}, N: 2}), bag(many(3))},
		{bag(many(1), many(-1)), nil},
		{bag(put(1, 1), many(2)), bag(many(2), put(1, 1))},
		{bag(put(most, 1), put(most, 1)), bag(put(2*most, 1))},
		{bag(put(-most, 1), put(-1, 1)), bag(put(-most-1, 1))},
		{bag(put(most, 1), put(-most, 1)), nil},
		{bag(put(bound, 1)), bag(put(bound, 1))},
		{bag(put(-bound, 1)), bag(put(-bound, 1))},
		{bag(put(bound-1, 1), put(1, 2), put(1, 1)), bag(put(bound, 1), put(1, 2))},
		{bag(put(1-bound, 1), put(-1, 1)), bag(put(-bound, 1))},
		{bag(put(bound, 1), put(-bound, 1)), nil},
		{bag(put(1, 1), many(1, text("1")), many(1, held(1)), many(1, nothing)),
			bag(many(1, nothing), put(1, 1), many(1, held(1)), many(1, text("1")))},
		{bag(many(1, num(1), nothing), put(1, 1)), bag(put(1, 1), many(1, num(1), nothing))},
	} {
		if got := Of(c.l); !same(got, c.want) {
			t.Errorf("Of(%+v) = %+v, want %+v", c.l, got, c.want)
		}
	}
}

// TestOfAnyOrder holds P4.1: in whatever order the rows come, Of tells the same of them.
func TestOfAnyOrder(t *testing.T) {
	l := bag(put(1, 1), put(2, 1), put(-3, 1), put(1, 2), put(4, 2), many(-1), put(0, 3))
	want := bag(many(-1), put(5, 2))
	var each func(n int)
	each = func(n int) {
		if n == len(l) {
			if got := Of(l); !same(got, want) {
				t.Fatalf("Of(%+v) = %+v, want %+v", l, got, want)
			}
			return
		}
		for i := n; i < len(l); i++ {
			l[n], l[i] = l[i], l[n]
			each(n + 1)
			l[n], l[i] = l[i], l[n]
		}
	}
	each(0)
}

// TestOfAnyList holds P4.1: Of many lists, by the words of the chapter; what it tells is rising, without 0.
func TestOfAnyList(t *testing.T) {
	r := rand.New(rand.NewSource(1))
	for range 2000 {
		l := random(r)
		got := Of(l)
		if !same(got, summed(l)) {
			t.Fatalf("Of(%+v) = %+v, want %+v", l, got, summed(l))
		}
		if !Right(got) || !same(Of(got), got) {
			t.Fatalf("Of(%+v) = %+v is no bag, or Of it is another one", l, got)
		}
	}
}

// TestOfLong holds P4.1 of lists that are long, of one row and of many.
func TestOfLong(t *testing.T) {
	const n = 1<<16 + 1
	var l, want []api.Many
	for i := range n {
		l = append(l, put(1, n-1-i), put(i-1, n-1-i))
		if i > 0 {
			want = append(want, put(n-i, i-1))
		}
	}
	if got := Of(l); !same(got, want) {
		t.Errorf("Of %d rows has %d, want %d", len(l), len(got), len(want))
	}
	one := slices.Repeat(bag(put(3, 7)), n)
	if got := Of(one); !same(got, bag(put(3*n, 7))) {
		t.Errorf("Of one row, %d times, is %+v", n, got)
	}
}

// TestList holds P4.1, of List.
func TestList(t *testing.T) {
	for _, c := range []struct {
		l    [][]api.Value
		want []api.Many
	}{
		{nil, nil},
		{[][]api.Value{}, nil},
		{[][]api.Value{{}}, bag(many(1))},
		{[][]api.Value{nil, {}, nil}, bag(many(3))},
		{[][]api.Value{row(num(1))}, bag(put(1, 1))},
		{[][]api.Value{row(num(2)), row(num(1)), row(num(2))}, bag(put(1, 1), put(2, 2))},
		{[][]api.Value{row(num(3)), row(num(2)), nil, row(num(1))}, bag(many(1), put(1, 1), put(1, 2), put(1, 3))},
		{[][]api.Value{row(text("a"), nothing), row(text("a")), row(text("a"), nothing)},
			bag(many(1, text("a")), many(2, text("a"), nothing))},
		{slices.Repeat([][]api.Value{row(num(5))}, 1000), bag(put(1000, 5))},
	} {
		if got := List(c.l); !same(got, c.want) {
			t.Errorf("List(%+v) = %+v, want %+v", c.l, got, c.want)
		}
	}
}

// lists are such as P4.2's calls are asked with, rising or not, with what each of these calls tells of them.
func lists() []struct {
	l     []api.Many
	count int
	rows  [][]api.Value
	once  []api.Many
	turn  []api.Many
} {
	return []struct {
		l     []api.Many
		count int
		rows  [][]api.Value
		once  []api.Many
		turn  []api.Many
	}{
		{},
		{l: bag()},
		{bag(put(2, 1)), 2, [][]api.Value{row(num(1)), row(num(1))}, bag(put(1, 1)), bag(put(-2, 1))},
		{bag(put(-2, 1)), 0, nil, nil, bag(put(2, 1))},
		{bag(put(0, 1)), 0, nil, nil, bag(put(0, 1))},
		{bag(many(3)), 3, [][]api.Value{{}, {}, {}}, bag(many(1)), bag(many(-3))},
		{bag(put(-5, 1), put(1, 2), put(-5, 3), put(2, 4)), 3, [][]api.Value{row(num(2)), row(num(4)), row(num(4))},
			bag(put(1, 2), put(1, 4)), bag(put(5, 1), put(-1, 2), put(5, 3), put(-2, 4))},
		{bag(put(1, 3), put(2, 1), put(0, 9), put(1, 3), put(-1, 3)), 4,
			[][]api.Value{row(num(3)), row(num(1)), row(num(1)), row(num(3))},
			bag(put(1, 3), put(1, 1), put(1, 3)), bag(put(-1, 3), put(-2, 1), put(0, 9), put(-1, 3), put(1, 3))},
		{bag(many(1, nothing), many(1, text("a"), held(1))), 2, [][]api.Value{row(nothing), row(text("a"), held(1))},
			bag(many(1, nothing), many(1, text("a"), held(1))), bag(many(-1, nothing), many(-1, text("a"), held(1)))},
	}
}

// TestCountRowsOnceTurn holds P4.2, but of Find.
func TestCountRowsOnceTurn(t *testing.T) {
	for _, c := range lists() {
		if got := Count(c.l); got != c.count {
			t.Errorf("Count(%+v) = %d, want %d", c.l, got, c.count)
		}
		if got := Rows(c.l); !sameRows(got, c.rows) {
			t.Errorf("Rows(%+v) = %+v, want %+v", c.l, got, c.rows)
		}
		if got := Once(c.l); !same(got, c.once) {
			t.Errorf("Once(%+v) = %+v, want %+v", c.l, got, c.once)
		}
		if got := Turn(c.l); !same(got, c.turn) {
			t.Errorf("Turn(%+v) = %+v, want %+v", c.l, got, c.turn)
		}
	}
}

// TestGreat holds P4.2 at the greatest numbers that the chapter lets stand.
func TestGreat(t *testing.T) {
	l := bag(put(most, 1), put(-most, 2), put(most, 3))
	if got := Count(l); got != 2*most {
		t.Errorf("Count(%+v) = %d", l, got)
	}
	if got := Once(l); !same(got, bag(put(1, 1), put(1, 3))) {
		t.Errorf("Once(%+v) = %+v", l, got)
	}
	if got := Turn(l); !same(got, bag(put(-most, 1), put(most, 2), put(-most, 3))) {
		t.Errorf("Turn(%+v) = %+v", l, got)
	}
	if Find(l, row(num(2))) != -most || Find(l, row(num(3))) != most {
		t.Errorf("Find in %+v", l)
	}
	l = bag(put(bound-1, 1), put(-bound, 2), put(1, 3))
	if got := Count(l); got != bound {
		t.Errorf("Count(%+v) = %d", l, got)
	}
	if got := Turn(l); !same(got, bag(put(1-bound, 1), put(bound, 2), put(-1, 3))) {
		t.Errorf("Turn(%+v) = %+v", l, got)
	}
	if got := Rows(bag(put(-bound, 1), put(-most, 2))); len(got) != 0 {
		t.Errorf("rows that are taken away: %d", len(got))
	}
	if got := Rows(bag(put(100000, 1), put(-bound, 2), many(100000))); len(got) != 200000 {
		t.Errorf("many rows: %d", len(got))
	}
}

// TestFind holds P4.2, of Find.
func TestFind(t *testing.T) {
	l := bag(put(4, 5), put(-2, 1), many(7), put(9, 1), put(0, 3), put(8, 3), many(6, num(1), nothing))
	for _, c := range []struct {
		row  []api.Value
		want int
	}{
		{row(num(5)), 4},
		{row(num(1)), -2},
		{nil, 7},
		{row(), 7},
		{row(num(3)), 0},
		{row(num(1), nothing), 6},
		{row(num(1), num(0)), 0},
		{row(num(1), nothing, nothing), 0},
		{row(nothing), 0},
		{row(text("1")), 0},
		{row(held(1)), 0},
		{row(api.Value{Kind: api.TInt, N: 5, S: "a"}), 0},
		{row(num(4)), 0},
	} {
		if got := Find(l, c.row); got != c.want {
			t.Errorf("Find(%+v) = %d, want %d", c.row, got, c.want)
		}
	}
	if Find(nil, nil) != 0 || Find(bag(), row(num(1))) != 0 {
		t.Error("something is found where there is nothing")
	}
	var all []api.Many
	for i, rows := range rising() {
		all = append(all, many(i+1, rows...))
	}
	for i, rows := range rising() {
		if got := Find(all, rows); got != i+1 {
			t.Errorf("Find(%+v) = %d, want %d", rows, got, i+1)
		}
	}
}

// TestAddLess holds P4.3.
func TestAddLess(t *testing.T) {
	for _, c := range []struct{ a, b, add, less []api.Many }{
		{},
		{bag(put(1, 1)), nil, bag(put(1, 1)), bag(put(1, 1))},
		{nil, bag(put(1, 1)), bag(put(1, 1)), bag(put(-1, 1))},
		{bag(put(1, 1)), bag(put(1, 1)), bag(put(2, 1)), nil},
		{bag(put(1, 1)), bag(put(-1, 1)), nil, bag(put(2, 1))},
		{bag(put(1, 1), put(2, 3)), bag(put(5, 2), put(3, 3), put(1, 4)),
			bag(put(1, 1), put(5, 2), put(5, 3), put(1, 4)), bag(put(1, 1), put(-5, 2), put(-1, 3), put(-1, 4))},
		{bag(put(1, 4)), bag(put(1, 2)), bag(put(1, 2), put(1, 4)), bag(put(-1, 2), put(1, 4))},
		{bag(many(2)), bag(many(5)), bag(many(7)), bag(many(-3))},
		{bag(many(1)), bag(many(1, nothing)), bag(many(1), many(1, nothing)), bag(many(1), many(-1, nothing))},
		{bag(put(most, 1)), bag(put(most, 1)), bag(put(2*most, 1)), nil},
		{bag(put(-most, 1)), bag(put(most, 1)), nil, bag(put(-2*most, 1))},
		{bag(put(bound-1, 1)), bag(put(1, 1)), bag(put(bound, 1)), bag(put(bound-2, 1))},
		{bag(put(-bound, 1)), bag(put(0, 1), put(0, 2)), bag(put(-bound, 1)), bag(put(-bound, 1))},
		// Of lists that are no bags: each is put together too.
		{bag(put(1, 2), put(1, 1), put(1, 2)), bag(put(1, 1), put(-2, 2), put(0, 3), put(-1, 1)),
			bag(put(1, 1)), bag(put(1, 1), put(4, 2))},
		{bag(put(0, 1)), bag(put(0, 1)), nil, nil},
		{nil, bag(put(1, 3), put(1, 2), put(2, 3)), bag(put(1, 2), put(3, 3)), bag(put(-1, 2), put(-3, 3))},
	} {
		if got := Add(c.a, c.b); !same(got, c.add) {
			t.Errorf("Add(%+v, %+v) = %+v, want %+v", c.a, c.b, got, c.add)
		}
		if got := Add(c.b, c.a); !same(got, c.add) {
			t.Errorf("Add(%+v, %+v) = %+v, want %+v", c.b, c.a, got, c.add)
		}
		if got := Less(c.a, c.b); !same(got, c.less) {
			t.Errorf("Less(%+v, %+v) = %+v, want %+v", c.a, c.b, got, c.less)
		}
		if got := Less(c.b, c.a); !same(got, Turn(c.less)) {
			t.Errorf("Less(%+v, %+v) = %+v, want %+v", c.b, c.a, got, Turn(c.less))
		}
	}
}

// TestAddAnyLists holds P4.3 of many lists: Of all of both, and what is added is taken away again.
func TestAddAnyLists(t *testing.T) {
	r := rand.New(rand.NewSource(2))
	for range 1000 {
		a, b := random(r), random(r)
		if got, want := Add(a, b), summed(slices.Concat(a, b)); !same(got, want) {
			t.Fatalf("Add(%+v, %+v) = %+v, want %+v", a, b, got, want)
		}
		if got, want := Less(a, b), summed(slices.Concat(a, Turn(b))); !same(got, want) {
			t.Fatalf("Less(%+v, %+v) = %+v, want %+v", a, b, got, want)
		}
		if got := Less(Add(a, b), b); !same(got, summed(a)) {
			t.Fatalf("%+v and %+v, which is taken away again: %+v", a, b, got)
		}
		if got := Less(a, a); len(got) != 0 {
			t.Fatalf("Less(%+v, itself) = %+v", a, got)
		}
	}
}

// roomy is a bag all of whose lists have spare room, which holds something, in a whole of its own.
func roomy() (all, l []api.Many) {
	for i := range 6 {
		whole := row(num(i), text("a"), num(70+i), num(80+i))
		all = append(all, api.Many{Row: whole[:2], N: 1 + i%2})
	}
	return all, all[:4]
}

// whole is l with the spare room of its rows.
func whole(l []api.Many) []api.Many {
	w := slices.Clone(l)
	for i, m := range w {
		w[i].Row = m.Row[:cap(m.Row)]
	}
	return w
}

// spoil changes each row of l, its spare room too, and holds that none of the others changes with it.
func spoil(t *testing.T, name string, rows [][]api.Value) {
	t.Helper()
	for i, r := range rows {
		others := make([][]api.Value, len(rows))
		for j, o := range rows {
			others[j] = slices.Clone(o)
		}
		for j := range r {
			r[j] = num(-1)
		}
		others[i] = slices.Clone(r)
		for j := range r[:cap(r)] {
			r[:cap(r)][j] = num(-1)
		}
		if !sameRows(rows, others) {
			t.Errorf("%s: two rows of the answer share memory", name)
		}
	}
}

func rowsOf(l []api.Many) [][]api.Value {
	var rows [][]api.Value
	for _, m := range l {
		rows = append(rows, m.Row)
	}
	return rows
}

// TestNewMemory holds rule 3: nothing that is handed in is changed, and what is answered is new, list by list.
func TestNewMemory(t *testing.T) {
	for name, f := range map[string]func(l []api.Many) []api.Many{
		"Of":                Of,
		"Of one":            func(l []api.Many) []api.Many { return Of(l[:1]) },
		"Of twice":          func(l []api.Many) []api.Many { return Of(append(l[:2:2], l[0], l[0], l[3])) },
		"Once":              Once,
		"Turn":              Turn,
		"Add":               func(l []api.Many) []api.Many { return Add(l[:3], l[2:]) },
		"Add of nothing":    func(l []api.Many) []api.Many { return Add(nil, l) },
		"Add to nothing":    func(l []api.Many) []api.Many { return Add(l, nil) },
		"Add of one":        func(l []api.Many) []api.Many { return Add(l[:1], nil) },
		"Add of itself":     func(l []api.Many) []api.Many { return Add(l, l) },
		"Less":              func(l []api.Many) []api.Many { return Less(l[:3], l[2:]) },
		"Less than nothing": func(l []api.Many) []api.Many { return Less(nil, l) },
		"List":              func(l []api.Many) []api.Many { return List(rowsOf(l)) },
		"List of one":       func(l []api.Many) []api.Many { return List(rowsOf(l)[:1]) },
	} {
		all, l := roomy()
		before := copied(whole(all))
		answer := f(l)
		if len(answer) == 0 {
			t.Errorf("%s: no answer", name)
		}
		spoil(t, name, rowsOf(answer))
		for i := range answer[:cap(answer)] {
			answer[:cap(answer)][i] = put(99, 99)
		}
		if !same(whole(all), before) {
			t.Errorf("%s: %+v has become %+v", name, before, whole(all))
		}
	}
	all, l := roomy()
	before := copied(whole(all))
	rows := Rows(l)
	spoil(t, "Rows", rows)
	Right(l)
	Plain(l)
	Count(l)
	Find(l, l[3].Row)
	if !same(whole(all), before) {
		t.Errorf("%+v has become %+v", before, whole(all))
	}
}

// TestAnyArguments holds P1: no call panics, whatever it is given.
func TestAnyArguments(t *testing.T) {
	var l []api.Many
	for _, n := range []int{math.MinInt, math.MaxInt, -bound - 1, bound + 1, 0, -1, 1} {
		for _, r := range rising() {
			l = append(l, many(n, r...))
		}
	}
	for i := range l {
		for _, part := range [][]api.Many{l[i:], l[:i], l[i : i+1]} {
			Right(part)
			Plain(part)
			Of(part)
			Add(part, l[i:])
			Less(part, l[:i])
			Turn(part)
			Count(part)
			Once(part)
			Find(part, l[i].Row)
			List(rowsOf(part))
		}
	}
	if got := Rows(bag(put(math.MinInt, 1), put(0, 1), many(math.MinInt))); len(got) != 0 {
		t.Errorf("rows that are taken away: %+v", got)
	}
}

// TestExample holds the chapter's example.
func TestExample(t *testing.T) {
	l := Of(bag(put(1, 2), put(2, 1), put(-1, 2)))
	if !same(l, bag(put(2, 1))) || Count(l) != 2 || !sameRows(Rows(l), [][]api.Value{row(num(1)), row(num(1))}) {
		t.Errorf("the example: %+v, %d, %+v", l, Count(l), Rows(l))
	}
}
