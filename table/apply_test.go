package table

import (
	"math"
	"slices"
	"strings"
	"testing"

	"belvedere/api"
)

// wide is a schema of eight texts: of a row of eight long ones a page has room for just one.
func wide(key ...int) api.Schema {
	var l []api.Column
	for _, c := range numbered(8) {
		l = append(l, col(c.Name, api.TText))
	}
	return schema(key, l...)
}

// long is a row of 528 bytes, for wide, that begins with s.
func long(s string) []api.Value {
	return slices.Repeat(row(text(s+strings.Repeat("-", api.MaxText-len(s)))), 8)
}

// TestNoBag holds P19.2: ErrArg, ahead of all else, of changes that are no bag.
func TestNoBag(t *testing.T) {
	a, b := row(num(1), text("x")), row(num(2), text("y"))
	c := row(num(3), text("z"))
	for _, s := range []api.Schema{pairs(), pairs(0)} {
		x := made(t, s, a, c)
		for _, l := range [][]api.Many{
			{comes(0, b)},
			{{}},
			{comes(1, b), comes(0, row(num(4), text("x")))},
			{comes(api.MaxMany+1, b)},
			{goes(api.MaxMany+1, a)},
			{comes(math.MaxInt, b)},
			{comes(math.MinInt, a)},
			{comes(1, c), comes(1, b)},
			{comes(1, b), comes(1, b)},
			{goes(1, a), goes(1, a)},
			{goes(1, a), comes(1, a)},
			{comes(1, row(num(9))), comes(1, b)},
			{goes(1, b), comes(1, row(num(9), num(9))), comes(0, nil)},
			{comes(api.MaxMany, b), comes(1, row(nothing))},
			{comes(1, nil), comes(1, []api.Value{})},
		} {
			refused(t, x, 9, api.ErrArg, l...)
			refused(t, x, 0, api.ErrArg, l...)
		}
	}
}

// TestNone holds P19.2: a row that goes more often than it is there.
func TestNone(t *testing.T) {
	a, b := row(num(1), text("x")), row(num(2), text("x"))
	x := made(t, pairs(), a, b, a, a)
	for _, n := range []int{4, 5, 2001, 1 << 32, api.MaxMany} {
		refused(t, x, 9, api.ErrNone, goes(n, a))
	}
	refused(t, x, 9, api.ErrNone, goes(2, b))
	for _, r := range [][]api.Value{
		nil, {}, {num(1)}, {num(1), text("x"), nothing}, {text("x"), num(1)}, {num(1), text("")}, {num(1), nothing},
		{nothing, text("x")}, {num(0), text("x")}, {truth(1), text("x")}, {num(1), api.Value{Kind: api.TText, N: 1, S: "x"}},
		{api.Value{Kind: api.TInt, N: 1, S: "x"}, text("x")}, {num(1), text(strings.Repeat("x", 65))},
		{num(1), api.Value{Kind: 4}}, {num(1), api.Value{Kind: -1}}, slices.Repeat(a, 5), slices.Repeat(a, 500),
	} {
		refused(t, x, 9, api.ErrNone, goes(1, r))
		refused(t, x, 9, api.ErrNone, goes(api.MaxMany, r))
		refused(t, made(t, pairs()), 9, api.ErrNone, goes(1, r))
	}
	apply(t, x, 9, goes(2, a))
	stands(t, x, row(num(2), text("x")), a)
	apply(t, x, 9, goes(1, a), goes(1, b))
	stands(t, x)
	refused(t, x, 9, api.ErrNone, goes(1, a))
}

// TestNoneByKey holds P19.2: a row isn't there when another one with its key is.
func TestNoneByKey(t *testing.T) {
	a := row(num(1), text("x"))
	x := made(t, pairs(0), a)
	for _, r := range [][]api.Value{{num(1), text("y")}, {num(1), nothing}, {num(1)}, {num(1), text("x"), nothing}, {}, {num(2), text("x")}, {nothing, text("x")}, {num(1), num(1)}} {
		refused(t, x, 9, api.ErrNone, goes(1, r))
	}
	refused(t, x, 9, api.ErrNone, goes(2, a))
	apply(t, x, 9, goes(1, a))
	stands(t, x)
	whole := made(t, pairs(1, 0), a)
	refused(t, whole, 9, api.ErrNone, goes(1, row(num(1))))
	refused(t, whole, 9, api.ErrNone, goes(2, a))
	apply(t, whole, 9, goes(1, a))
	stands(t, whole)
}

// kinds is a schema of a column of each type, of which the first is the Key, and the last is Must.
func kinds() api.Schema {
	return schema([]int{0}, col("a", api.TInt), col("b", api.TBool), col("c", api.TText), must("d", api.TInt))
}

// TestRow holds P19.2: each error of a row that comes, alone, and rows that may come.
func TestRow(t *testing.T) {
	good := row(num(1), truth(1), text("x"), num(2))
	x := made(t, kinds())
	with := func(at int, v api.Value) []api.Value {
		r := slices.Clone(good)
		r[at] = v
		return r
	}
	for _, r := range [][]api.Value{nil, {}, good[:1], good[:3], append(slices.Clone(good), nothing), slices.Repeat(good, 2), slices.Repeat(good, 500)} {
		refused(t, x, 9, api.ErrType, comes(1, r))
	}
	for at := range 4 {
		for _, v := range []api.Value{num(1), truth(1), text("x")} {
			if v.Kind != x.Schema().Cols[at].Type {
				refused(t, x, 9, api.ErrType, comes(1, with(at, v)))
			}
		}
		for _, v := range []api.Value{{Kind: 4}, {Kind: -1}, {Kind: math.MaxInt}, {Kind: math.MinInt}, {N: 1}, {S: "x"}, {Kind: api.TInt, S: "x"}, {Kind: api.TBool, N: 2}, {Kind: api.TBool, N: -1}, {Kind: api.TBool, S: "x"}, {Kind: api.TText, N: 1}} {
			refused(t, x, 9, api.ErrArg, comes(1, with(at, v)))
		}
		refused(t, x, 9, api.ErrLong, comes(1, with(at, text(strings.Repeat("x", 65)))))
	}
	refused(t, x, 9, api.ErrNull, comes(1, with(0, nothing)))
	refused(t, x, 9, api.ErrNull, comes(1, with(3, nothing)))
	for _, r := range [][]api.Value{good, with(1, nothing), with(2, nothing), with(1, truth(0)), with(2, text("")), with(2, text(strings.Repeat("x", 64))), with(3, num(math.MinInt)), with(0, num(math.MaxInt))} {
		apply(t, x, 9, comes(1, r))
		stands(t, x, r)
		apply(t, x, 9, goes(1, r))
	}
}

// TestNothingInKey holds P19.2: nothing may stand in no column of the Key, Must or not, and in others that aren't Must.
func TestNothingInKey(t *testing.T) {
	for _, key := range [][]int{nil, {0}, {1}, {2}, {2, 0}, {1, 2}, {2, 1, 0}} {
		for at := range 3 {
			r := row(num(0), num(1), num(2))
			r[at] = nothing
			x := made(t, schema(key, col("a", api.TInt), col("b", api.TInt), col("c", api.TInt)))
			if slices.Contains(key, at) {
				refused(t, x, 9, api.ErrNull, comes(1, r))
			} else {
				apply(t, x, 9, comes(1, r))
				stands(t, x, r)
			}
			x = made(t, schema(key, must("a", api.TInt), must("b", api.TInt), must("c", api.TInt)))
			refused(t, x, 9, api.ErrNull, comes(1, r))
		}
	}
}

// TestFirstOfRow holds P19.2: of several faults of a row, the first by its values, and nothing behind all of them.
func TestFirstOfRow(t *testing.T) {
	tooLong := text(strings.Repeat("x", 65))
	wrong := api.Value{Kind: api.TBool, N: 2}
	for _, c := range []struct {
		r    []api.Value
		want api.Errno
	}{
		{row(num(1), truth(1), tooLong), api.ErrType},
		{row(wrong, tooLong, nothing, nothing, nothing), api.ErrType},
		{row(tooLong), api.ErrType},
		{row(tooLong, wrong, num(1), nothing), api.ErrLong},
		{row(wrong, tooLong, num(1), nothing), api.ErrArg},
		{row(num(1), tooLong, wrong, nothing), api.ErrLong},
		{row(num(1), num(1), tooLong, wrong), api.ErrType},
		{row(num(1), num(1), wrong, nothing), api.ErrType},
		{row(num(1), truth(1), wrong, text("x")), api.ErrArg},
		{row(nothing, truth(1), text("x"), wrong), api.ErrArg},
		{row(nothing, truth(1), text("x"), tooLong), api.ErrLong},
		{row(nothing, truth(1), text("x"), text("x")), api.ErrType},
		{row(nothing, text("x"), tooLong, nothing), api.ErrType},
		{row(nothing, nothing, nothing, nothing), api.ErrNull},
		{row(num(1), nothing, num(3), nothing), api.ErrType},
	} {
		refused(t, made(t, kinds()), 9, c.want, comes(1, c.r))
		refused(t, made(t, kinds()), 0, c.want, comes(5, c.r))
	}
}

// TestFirstOfRows holds P19.2: of several faults, the first by the rows; behind all of them too many rows, then keys,
// then pages.
func TestFirstOfRows(t *testing.T) {
	x := made(t, pairs(0), row(num(5), text("x")))
	// They rise, and each has a fault of its own, or two rows of one key.
	none := goes(1, row(num(1), text("x")))
	wrong := comes(1, row(num(2), api.Value{Kind: api.TText, N: 1}))
	null := comes(1, row(nothing, text("x")))
	short := comes(1, row(num(3)))
	tooLong := comes(1, row(num(4), text(strings.Repeat("x", 65))))
	clash := comes(1, row(num(5), text("y")))
	tooMany := comes(2001, row(num(6), text("z")))
	good := comes(1, row(num(7), text("z")))
	for _, c := range []struct {
		l    []api.Many
		want api.Errno
	}{
		{[]api.Many{null, none, wrong, short, tooLong, clash, tooMany, good}, api.ErrNull},
		{[]api.Many{none, wrong, short, tooLong, clash, tooMany, good}, api.ErrNone},
		{[]api.Many{wrong, short, tooLong, clash, tooMany, good}, api.ErrArg},
		{[]api.Many{short, tooLong, clash, tooMany, good}, api.ErrType},
		{[]api.Many{tooLong, clash, tooMany, good}, api.ErrLong},
		{[]api.Many{clash, tooMany, good}, api.ErrLong},
		{[]api.Many{clash, good}, api.ErrKey},
		{[]api.Many{null, clash}, api.ErrNull},
		{[]api.Many{clash, comes(1, row(num(6), num(6)))}, api.ErrType},
		{[]api.Many{clash, goes(1, row(num(6), num(6)))}, api.ErrNone},
		{[]api.Many{tooMany, goes(1, row(num(9), nothing))}, api.ErrNone},
		{[]api.Many{tooMany, comes(1, row(text("x"), nothing))}, api.ErrType},
		{[]api.Many{comes(api.MaxMany, row(num(1), nothing)), short}, api.ErrType},
	} {
		refused(t, x, 9, c.want, c.l...)
		refused(t, x, 0, c.want, c.l...)
	}
	empty := made(t, pairs(0))
	refused(t, empty, 0, api.ErrFull, good)
	refused(t, empty, 0, api.ErrKey, good, comes(1, row(num(7), text("zz"))))
	refused(t, empty, 0, api.ErrLong, good, comes(2000, row(num(7), text("zz"))))
}

// TestKey holds P19.2 and P19.4: no two rows have one key, be they there or coming; who has gone has none.
func TestKey(t *testing.T) {
	a, b, c := row(num(1), text("x")), row(num(1), text("y")), row(num(2), text("x"))
	x := made(t, pairs(0), a)
	refused(t, x, 9, api.ErrKey, comes(1, a))
	refused(t, x, 9, api.ErrKey, comes(1, b))
	refused(t, x, 9, api.ErrKey, comes(1, b), comes(1, c))
	refused(t, x, 9, api.ErrKey, comes(2, c))
	refused(t, x, 9, api.ErrKey, comes(1, c), comes(1, row(num(2), text("y"))))
	refused(t, x, 9, api.ErrKey, goes(1, a), comes(2, b))
	refused(t, x, 9, api.ErrKey, comes(1, row(num(1), nothing)), goes(1, a), comes(1, b))
	apply(t, x, 9, goes(1, a), comes(1, b))
	stands(t, x, b)
	apply(t, x, 9, comes(1, a), goes(1, b), comes(1, c))
	stands(t, x, a, c)
	found(t, x, a, num(1))
	apply(t, x, 9, comes(1, row(num(1), nothing)), goes(1, a), goes(1, c), comes(1, row(num(2), text("y"))))
	stands(t, x, row(num(1), nothing), row(num(2), text("y")))
}

// TestKeyOfTwo holds P19.2 of a Key of two columns: only both together are a key.
func TestKeyOfTwo(t *testing.T) {
	s := schema([]int{2, 0}, col("a", api.TText), col("b", api.TInt), col("c", api.TText))
	x := made(t, s,
		row(text("a"), num(1), text("b")), row(text("b"), num(1), text("a")), row(text("a"), num(1), text("a")),
		row(text(""), num(1), text("ab")), row(text("ab"), num(1), text("")), row(text("\x00"), num(1), text("")),
		row(text(""), num(1), text("\x00")), row(text(""), num(1), text("")))
	for _, a := range []string{"", "a", "b", "ab", "\x00"} {
		for _, c := range []string{"", "a", "b", "ab", "\x00"} {
			if _, has := x.Find(row(text(c), text(a))); has {
				refused(t, x, 9, api.ErrKey, comes(1, row(text(a), num(2), text(c))))
			} else {
				apply(t, x, 9, comes(1, row(text(a), num(2), text(c))))
			}
		}
	}
	if x.Len() != 25 {
		t.Errorf("%d rows", x.Len())
	}
	places(t, x)
}

// TestOften holds P19.2: a row comes and goes as often as is said where there is no Key, and never twice where one is.
func TestOften(t *testing.T) {
	a, b := row(num(1), text("x")), row(num(1), text("y"))
	x := made(t, pairs())
	apply(t, x, 9, comes(2, a), comes(1, b))
	stands(t, x, a, a, b)
	apply(t, x, 9, goes(1, a), comes(2, b))
	stands(t, x, b, a, b, b)
	apply(t, x, 9, goes(1, a), goes(2, b))
	stands(t, x, b)
	for _, key := range [][]int{{0}, {1}, {0, 1}, {1, 0}} {
		refused(t, made(t, pairs(key...)), 9, api.ErrKey, comes(2, a))
	}
}

// TestNoChange holds P19.2: no changes are a bag.
func TestNoChange(t *testing.T) {
	a := row(num(1), text("x"))
	for _, pages := range []int{math.MinInt, -1, 0, 1, math.MaxInt} {
		x := made(t, pairs(0), a)
		apply(t, x, pages)
		if err := x.Apply([]api.Many{}, pages); err != api.OK {
			t.Errorf("Apply of none, %d: %d", pages, err)
		}
		stands(t, x, a)
	}
}

// TestMaxRows holds P19.2: just MaxRows rows, and one more.
func TestMaxRows(t *testing.T) {
	a, b := row(num(1), text("x")), row(num(2), text("y"))
	x := made(t, pairs(), a)
	for _, n := range []int{2000, 2001, 1 << 31, 1 << 32, api.MaxMany} {
		refused(t, x, api.MaxPages, api.ErrLong, comes(n, a))
		refused(t, x, 0, api.ErrLong, comes(n, b))
	}
	apply(t, x, api.MaxPages, comes(1999, b))
	if x.Len() != 2000 {
		t.Fatalf("%d rows", x.Len())
	}
	refused(t, x, api.MaxPages, api.ErrLong, comes(1, a))
	refused(t, x, api.MaxPages, api.ErrLong, goes(1, a), comes(2, b))
	refused(t, x, api.MaxPages, api.ErrLong, comes(8, a), goes(7, b))
	apply(t, x, api.MaxPages, goes(1, a), comes(1, b))
	apply(t, x, api.MaxPages, comes(7, a), goes(7, b))
	apply(t, x, api.MaxPages, comes(1993, a), goes(1993, b))
	if x.Len() != 2000 {
		t.Fatalf("%d rows", x.Len())
	}
	apply(t, x, api.MaxPages, goes(2000, a))
	stands(t, x)
}

// TestMaxRowsByKey holds P19.2: too many rows are told ahead of rows of one key.
func TestMaxRowsByKey(t *testing.T) {
	var l []api.Many
	for i := range 2001 {
		l = append(l, comes(1, row(num(i), text("x"))))
	}
	x := made(t, pairs(0))
	refused(t, x, api.MaxPages, api.ErrLong, l...)
	apply(t, x, api.MaxPages, l[:2000]...)
	refused(t, x, api.MaxPages, api.ErrLong, l[2000])
	refused(t, x, api.MaxPages, api.ErrLong, l[7])
	refused(t, x, api.MaxPages, api.ErrKey, goes(1, l[6].Row), l[7])
	apply(t, x, api.MaxPages, goes(1, l[7].Row), l[2000])
	found(t, x, l[2000].Row, num(2000))
	unfound(t, x, num(7))
	if x.Len() != 2000 {
		t.Errorf("%d rows", x.Len())
	}
	places(t, x)
}

// TestSumPastTheEnds holds P19.2: too many rows are told also where their number is past the ends. (A bag has to be very
// long for that: so here are greater numbers than a bag may have.)
func TestSumPastTheEnds(t *testing.T) {
	x := made(t, pairs(), row(num(1), text("x")))
	for _, n := range []int{2, 3, 4, 8} {
		if !x.tooMany(slices.Repeat([]api.Many{comes(1<<62, nil)}, n)) {
			t.Errorf("%d times 2^62 rows aren't too many", n)
		}
	}
}

// TestPages holds P19.2: as many pages as there may be, and one row more.
func TestPages(t *testing.T) {
	for _, key := range [][]int{nil, {0}} {
		x := made(t, wide(key...))
		for _, pages := range []int{math.MinInt, -1, 0} {
			refused(t, x, pages, api.ErrFull, comes(1, long("a")))
		}
		refused(t, x, 1, api.ErrFull, comes(1, long("a")), comes(1, long("b")))
		apply(t, x, 2, comes(1, long("a")), comes(1, long("b")))
		if x.Pages() != 2 {
			t.Fatalf("%d pages", x.Pages())
		}
		for _, pages := range []int{math.MinInt, -1, 0, 1, 2} {
			refused(t, x, pages, api.ErrFull, comes(1, long("c")))
			refused(t, x, pages, api.ErrFull, goes(1, long("b")), comes(1, long("c")), comes(1, long("d")))
			refused(t, x, pages, api.ErrFull, comes(1, long("0")), comes(1, long("1")), goes(1, long("a")))
		}
		apply(t, x, 3, comes(1, long("c")))
		apply(t, x, math.MaxInt, comes(1, long("d")))
		stands(t, x, long("a"), long("b"), long("c"), long("d"))
		small := slices.Repeat(row(text("x")), 8)
		apply(t, x, math.MinInt, comes(1, small))
		stands(t, x, long("a"), small, long("b"), long("c"), long("d"))
	}
}

// TestRoom holds P19.2: a row that comes takes the room of one that goes, though it stands ahead of it in the changes,
// and pages at the end without a row are gone.
func TestRoom(t *testing.T) {
	for _, key := range [][]int{nil, {0}} {
		x := made(t, wide(key...), long("a"), long("d"), long("c"))
		apply(t, x, 3, comes(1, long("b")), goes(1, long("d")))
		stands(t, x, long("a"), long("b"), long("c"))
		apply(t, x, -1, goes(1, long("a")), comes(1, long("e")))
		stands(t, x, long("e"), long("b"), long("c"))
		apply(t, x, 0, goes(1, long("c")))
		if x.Pages() != 2 {
			t.Errorf("%d pages", x.Pages())
		}
		apply(t, x, 0, goes(1, long("e")))
		if x.Pages() != 2 {
			t.Errorf("%d pages", x.Pages())
		}
		refused(t, x, 2, api.ErrFull, comes(1, long("f")), comes(1, long("g")))
		apply(t, x, 2, comes(1, long("f")))
		stands(t, x, long("f"), long("b"))
		apply(t, x, 0, goes(1, long("b")), goes(1, long("f")))
		stands(t, x)
		if x.Pages() != 0 || len(x.Heap().Pages) != 0 {
			t.Errorf("%d pages", x.Pages())
		}
	}
}

// TestFirstPlace holds P19.2: of a row's places the first ones are cut, by pages, then slots.
func TestFirstPlace(t *testing.T) {
	a, b, c := row(num(1), text("x")), row(num(2), text("y")), row(num(3), text("z"))
	x := made(t, pairs(), a, b, a, b, a)
	apply(t, x, 9, goes(1, a))
	stands(t, x, b, a, b, a)
	apply(t, x, 9, goes(1, b))
	stands(t, x, a, b, a)
	apply(t, x, 9, comes(1, c))
	stands(t, x, c, a, b, a)
	apply(t, x, 9, comes(1, a))
	stands(t, x, c, a, a, b, a)
	apply(t, x, 9, goes(2, a))
	stands(t, x, c, b, a)
	apply(t, x, 9, goes(1, c), comes(3, b))
	stands(t, x, b, b, b, b, a)
	apply(t, x, 9, goes(3, b))
	stands(t, x, b, a)

	y := made(t, wide(), long("a"), long("b"), long("a"), long("a"))
	apply(t, y, 9, goes(1, long("a")))
	apply(t, y, 9, comes(1, long("c")))
	stands(t, y, long("c"), long("b"), long("a"), long("a"))
	apply(t, y, 9, goes(1, long("c")), comes(1, long("a")))
	apply(t, y, 9, goes(2, long("a")), comes(1, long("d")))
	stands(t, y, long("d"), long("b"), long("a"))
}

// TestInOrder holds P19.2: rows that come are put in the changes' order, each as often as it comes.
func TestInOrder(t *testing.T) {
	x := made(t, pairs(), row(num(9), text("x")))
	a, b, c := row(nothing, nothing), row(num(1), nothing), row(num(1), text("x"))
	apply(t, x, 9, comes(2, a), comes(1, b), comes(3, c))
	stands(t, x, row(num(9), text("x")), a, a, b, c, c, c)
	big, small := row(text(strings.Repeat("x", 64))), row(text("z"))
	y := made(t, schema(nil, col("a", api.TText)))
	// A page has room for fourteen of big, and for five of small behind them.
	apply(t, y, 9, comes(15, big), comes(8, small))
	stands(t, y, slices.Concat(slices.Repeat([][]api.Value{big}, 14), slices.Repeat([][]api.Value{small}, 5), [][]api.Value{big}, slices.Repeat([][]api.Value{small}, 3))...)
}
