package delta

import (
	"math"
	"testing"

	"belvedere/api"
)

// past and unlike are expressions whose errors are ErrOverflow and ErrType; past3 is past the ends where column 0 is 3
// or more.
func past() api.Calc   { return add(lit(math.MaxInt), lit(1)) }
func unlike() api.Calc { return mul(lit(2), val(text("a"))) }
func past3() api.Calc  { return add(col(0), lit(math.MaxInt-2)) }

// bad are lists that are no bags, of rows of two columns.
func bad() [][]api.Many {
	return [][]api.Many{
		{many(0, ints(1, 2))},
		{many(1, ints(1, 2)), many(0, ints(1, 3))},
		{many(1, ints(2, 2)), many(1, ints(1, 2))},
		{many(1, ints(1, 2)), many(1, ints(1, 2))},
		{many(1, ints(1, 2)), many(-1, ints(1, 2))},
		{many(api.MaxMany+1, ints(1, 2))},
		{many(-api.MaxMany-1, ints(1, 2))},
		{many(math.MaxInt, ints(1, 2))},
		{many(math.MinInt, ints(1, 2))},
		{many(1, ints(1, 2)), many(math.MinInt, ints(1, 3))},
	}
}

// wrongParts are parts that may not be.
func wrongParts() []api.Part {
	turned := func(turn func(*api.Part)) api.Part {
		p := from(2, "t", "u")
		turn(&p)
		return p
	}
	return []api.Part{
		{},
		turned(func(p *api.Part) { p.From = nil }),
		turned(func(p *api.Part) { p.Widths = nil }),
		turned(func(p *api.Part) { p.From, p.Widths = nil, nil }),
		turned(func(p *api.Part) { p.Widths = []int{2} }),
		turned(func(p *api.Part) { p.Widths = []int{2, 0} }),
		turned(func(p *api.Part) { p.Widths = []int{2, 9} }),
		turned(func(p *api.Part) { p.Widths = []int{math.MinInt, math.MaxInt} }),
		from(2, "t", "t", "t", "t"),
		turned(func(p *api.Part) { p.Outs = nil }),
		turned(func(p *api.Part) { p.Outs = columns(0, 0, 0, 0, 0, 0, 0, 0, 0) }),
		turned(func(p *api.Part) { p.Outs = columns(4) }),
		turned(func(p *api.Part) { p.Outs = columns(-1) }),
		turned(func(p *api.Part) { p.Outs = []api.Out{tells(add(lit(1), col(math.MaxInt)))} }),
		turned(func(p *api.Part) { p.Outs = []api.Out{gives(7, col(0))} }),
		turned(func(p *api.Part) { p.Outs = []api.Out{gives(-1, col(0))} }),
		turned(func(p *api.Part) { p.Outs = []api.Out{gives(api.ACount, col(4))} }),
		turned(func(p *api.Part) { p.Outs = []api.Out{gives(api.ACount, col(0)), tells(col(0))} }),
		turned(func(p *api.Part) { p.Group = []int{1} }),
		turned(func(p *api.Part) { p.Group = []int{0, 4} }),
		turned(func(p *api.Part) { p.Group = []int{0, 0, 0, 0, 0} }),
		where(from(2, "t"), same(0, 2)),
		where(from(2, "t"), same(math.MinInt, 1)),
		where(from(2, "t", "t"), and(same(0, 2), not(null(col(4))))),
	}
}

// TestWrongPlans holds P14.1: ErrArg of plans that may not be, whatever is there and changes.
func TestWrongPlans(t *testing.T) {
	good, gone := from(2, "t"), from(2, "gone")
	for _, old := range [][]api.Named{nil, {named("t", many(1, ints(1, 2))), named("u")}, {sized("t", math.MaxInt)}} {
		for _, ch := range [][]api.Named{nil, {named("t", many(1, ints(2, 2)))}, {sized("t", math.MinInt), sized("t", 0)}} {
			for _, p := range wrongParts() {
				refused(t, planOf(p), old, ch, api.ErrArg)
				refused(t, planOf(good, p), old, ch, api.ErrArg)
				refused(t, planOf(p, gone), old, ch, api.ErrArg)
				refused(t, planOf(once(gone), p), old, ch, api.ErrArg)
				Cost(planOf(p, good), old, ch)
			}
			refused(t, api.Plan{}, old, ch, api.ErrArg)
			refused(t, planOf(good, good, good, good, good), old, ch, api.ErrArg)
			refused(t, planOf(gone, telling(good, columns(0, 1)...)), old, ch, api.ErrArg)
		}
	}
}

// TestOldNotReady holds P14.1: the first fault of what was there, ahead of any of the changes.
func TestOldNotReady(t *testing.T) {
	old := list(named("t", many(1, ints(1, 2))), named("short", many(1, ints(1))), named("turned", many(1, ints(2, 2)), many(1, ints(1, 2))), named("went", many(-1, ints(1, 2))), named("often", many(api.MaxMany+1, ints(1, 2))))
	good, gone := from(2, "t"), from(2, "gone")
	changes := [][]api.Named{nil, {named("t", many(1, ints(3, 3)))}, {named("gone", many(1, ints(1, 2)))}, {named("t", many(-9, ints(9)))}}
	// Changes that make good what isn't a bag don't help.
	changes = append(changes, list(named("went", many(2, ints(1, 2))), named("often", many(-1, ints(1, 2))), named("short", many(-1, ints(1)))))
	for _, rows := range bad() {
		changes = append(changes, list(named("t", rows...)), list(named("x", rows...)))
	}
	for _, ch := range changes {
		refused(t, planOf(gone), old, ch, api.ErrName)
		refused(t, planOf(good), nil, ch, api.ErrName)
		refused(t, planOf(from(2, "T")), old, ch, api.ErrName)
		refused(t, planOf(good, good, good, gone), old, ch, api.ErrName)
		refused(t, planOf(once(gone)), old, ch, api.ErrName)
		refused(t, planOf(from(1, "t")), old, ch, api.ErrArg)
		refused(t, planOf(from(3, "t")), old, ch, api.ErrArg)
		for _, name := range []string{"short", "turned", "went", "often"} {
			refused(t, planOf(from(2, name)), old, ch, api.ErrArg)
			refused(t, planOf(from(2, "t", name, "gone")), old, ch, api.ErrArg)
			refused(t, planOf(good, gone, from(2, name)), old, ch, api.ErrName)
		}
	}
	// What no part reads needn't be a bag.
	brings(t, planOf(good), old, changes[1], many(1, ints(3)))
}

// TestChangesAreBags holds P14.1: ErrArg, if one of the changes isn't a bag, whoever reads it.
func TestChangesAreBags(t *testing.T) {
	old := list(named("t", many(5, ints(1, 2)), many(5, ints(1, 3))), named("u", many(1, ints(1, 2))))
	fine := named("t", many(-5, ints(1, 2)), many(1, ints(4, 4)))
	for _, rows := range bad() {
		for _, ch := range [][]api.Named{
			{named("t", rows...)}, {named("u", rows...)}, {fine, named("u", rows...)}, {named("x", rows...), fine}, {fine, named("t", rows...)}, {fine, fine, named("", rows...)},
		} {
			refused(t, planOf(from(2, "t")), old, ch, api.ErrArg)
			refused(t, planOf(from(2, "t", "u")), old, ch, api.ErrArg)
			refused(t, planOf(once(from(2, "t"))), old, ch, api.ErrArg)
			refused(t, planOf(telling(from(2, "t"), tells(unlike()))), old, ch, api.ErrArg)
		}
	}
	// Rows of a bag needn't be as wide as one another, if nobody reads them.
	brings(t, planOf(from(2, "t")), old, list(fine, named("u", many(-3, nil), many(api.MaxMany, ints(1)), many(-api.MaxMany, ints(1, 1)))), many(-5, ints(1)), many(1, ints(4)))
}

// TestNowNotReady holds P14.1: ErrArg, if what is there now is no plain bag of rows of the width.
func TestNowNotReady(t *testing.T) {
	old := list(named("t", many(2, ints(1, 2)), many(1, ints(2, 2))), named("u", many(api.MaxMany, ints(1, 2))), named("none"))
	for _, c := range []struct {
		ch   api.Named
		want api.Errno
	}{
		{named("t", many(-2, ints(1, 2)), many(-1, ints(2, 2))), api.OK},
		{named("t", many(-3, ints(1, 2))), api.ErrArg},
		{named("t", many(-1, ints(1, 3))), api.ErrArg},
		{named("t", many(5, ints(1, 2)), many(-2, ints(2, 2))), api.ErrArg},
		{named("t", many(-api.MaxMany, ints(1, 2))), api.ErrArg},
		{named("t", many(1, ints(1))), api.ErrArg},
		{named("t", many(-1, ints(1))), api.ErrArg},
		{named("t", many(1, nil)), api.ErrArg},
		{named("t", many(1, ints(1, 2, 3))), api.ErrArg},
		{named("t", many(1, ints(1, 2)), many(1, ints(1, 2, 3))), api.ErrArg},
		{named("t", many(api.MaxMany, ints(1, 2))), api.ErrArg},
		{named("none", many(1, ints(1))), api.ErrArg},
		{named("none", many(-1, ints(1, 2))), api.ErrArg},
		{named("none", many(2, ints(1, 2))), api.OK},
		{named("u", many(1, ints(1, 2))), api.ErrArg},
		{named("u", many(api.MaxMany, ints(1, 2))), api.ErrArg},
		{named("u", many(-1, ints(1, 2))), api.OK},
		{named("u", many(-api.MaxMany, ints(1, 2))), api.OK},
		{named("u", many(-api.MaxMany, ints(1, 2)), many(1, ints(1, 3))), api.OK},
	} {
		p := telling(from(2, c.ch.Name), columns(0, 1)...)
		other := telling(from(2, "none"), columns(0, 1)...)
		for _, ch := range [][]api.Named{{c.ch}, {named("x", many(-1, nil)), c.ch, named(c.ch.Name)}} {
			if c.want == api.OK {
				if c.ch.Rows[0].N > -2000 {
					brings(t, planOf(p), old, ch, c.ch.Rows...)
				} else {
					refused(t, planOf(p), old, ch, api.ErrResource)
				}
				continue
			}
			refused(t, planOf(p), old, ch, c.want)
			refused(t, planOf(other, p), old, ch, c.want)
			refused(t, planOf(from(2, "none", c.ch.Name)), old, ch, c.want)
			refused(t, planOf(once(p)), old, ch, c.want)
			refused(t, planOf(where(p, null(lit(1)))), old, ch, c.want)
		}
	}
	if Cost(planOf(from(2, "t")), old, list(named("t", many(-3, ints(1, 2))))) != 3 {
		t.Error("a cost of more rows that go than there are")
	}
}

// TestNotOneByOne holds P14.1: ErrFast of a part that is grouped or has Distinct, behind what isn't there.
func TestNotOneByOne(t *testing.T) {
	old := list(named("t", many(2, ints(1, 2))), sized("great", api.MaxMany), named("short", many(1, ints(1))))
	fine := list(named("t", many(1, ints(2, 2))), named("great", many(-api.MaxMany, ints(1))))
	good := from(2, "t")
	parts := []api.Part{once(good), by(good, 0), by(good, 1, 0), once(by(good, 0))}
	for agg := api.ACount; agg <= api.ATotal; agg++ {
		parts = append(parts, telling(good, gives(agg, col(0))), by(telling(good, gives(agg, col(1))), 0))
	}
	parts = append(parts, telling(good, gives(api.ASum, unlike())), once(telling(good, tells(past()))))
	for _, p := range parts {
		for _, ch := range [][]api.Named{nil, fine} {
			refused(t, planOf(p), old, ch, api.ErrFast)
			refused(t, planOf(good, p), old, ch, api.ErrFast)
			refused(t, planOf(p, good), old, ch, api.ErrFast)
			refused(t, planOf(good, good, good, p), old, ch, api.ErrFast)
			// It stands ahead of the limit and of what is reckoned.
			refused(t, planOf(from(1, "great"), p), old, ch, api.ErrFast)
			refused(t, planOf(telling(good, tells(unlike())), p), old, ch, api.ErrFast)
		}
		refused(t, planOf(p, from(2, "gone")), old, fine, api.ErrName)
		refused(t, planOf(p, from(2, "short")), old, fine, api.ErrArg)
		refused(t, planOf(p), old, list(named("t", many(-3, ints(1, 2)))), api.ErrArg)
		refused(t, planOf(p), old, list(named("x", many(0, ints(1, 2)))), api.ErrArg)
	}
	brings(t, planOf(good), old, fine, many(1, ints(2)))
}

// TestLimit holds P14.1: ErrResource just if the cost is more than MaxRows, ahead of what is reckoned, however few
// rows are net rows and are kept.
func TestLimit(t *testing.T) {
	old := list(sized("t", 2000), sized("u", 1), sized("a", 40), sized("none", 0), sized("most", api.MaxMany), sized("swap", 1000))
	ten := named("none", many(10, ints(2)))
	whole := planOf(from(1, "t", "u"))
	brings(t, planOf(from(1, "t")), old, list(sized("t", -2000)), many(-2000, ints(1)))
	brings(t, planOf(from(1, "t")), old, list(named("t", many(2000, ints(3)))), many(2000, ints(3)))
	brings(t, planOf(from(1, "most")), old, list(sized("most", -2000)), many(-2000, ints(1)))
	brings(t, planOf(from(1, "most"), from(1, "most")), old, list(sized("most", -1000)), many(-2000, ints(1)))
	refused(t, planOf(from(1, "most")), old, list(sized("most", -2001)), api.ErrResource)
	refused(t, planOf(from(1, "most"), from(1, "most")), old, list(sized("most", -1001)), api.ErrResource)
	brings(t, planOf(from(1, "swap")), old, list(named("swap", many(-1000, ints(1)), many(1000, ints(2)))), many(-1000, ints(1)), many(1000, ints(2)))
	refused(t, planOf(from(1, "swap")), old, list(named("swap", many(-1000, ints(1)), many(1001, ints(2)))), api.ErrResource)
	refused(t, planOf(from(1, "t")), old, list(named("t", many(-2000, ints(1)), many(1, ints(2)))), api.ErrResource)
	brings(t, whole, old, list(sized("u", 1)), many(2000, ints(1)))
	brings(t, whole, old, list(sized("u", -1)), many(-2000, ints(1)))
	refused(t, whole, old, list(sized("u", 2)), api.ErrResource)
	refused(t, whole, old, list(named("u", many(-1, ints(1)), many(1, ints(2)))), api.ErrResource)
	// A source's changes meet those ahead as they were and those behind as they are.
	brings(t, whole, old, list(sized("u", -1), sized("t", -2000)), many(-2000, ints(1)))
	refused(t, planOf(from(1, "u", "t")), old, list(sized("u", 1), sized("t", 1)), api.ErrResource)
	brings(t, planOf(from(1, "u", "t")), old, list(sized("u", 1), sized("t", -1000)))
	brings(t, planOf(from(1, "a", "none")), old, list(named("none", many(50, ints(2)))), many(2000, ints(1)))
	refused(t, planOf(from(1, "a", "none")), old, list(named("none", many(51, ints(2)))), api.ErrResource)
	brings(t, planOf(from(1, "none", "a")), old, list(ten, sized("a", 160)), many(2000, ints(2)))
	refused(t, planOf(from(1, "none", "a")), old, list(ten, sized("a", 161)), api.ErrResource)
	for _, p := range []api.Part{where(from(1, "t", "u"), null(lit(1))), telling(from(1, "t", "u"), tells(unlike())), telling(from(1, "t", "u"), tells(past()))} {
		refused(t, planOf(p), old, list(sized("u", 2)), api.ErrResource)
	}
	refused(t, planOf(from(1, "most", "t")), old, list(sized("t", -1)), api.ErrResource)
	refused(t, planOf(from(1, "most", "most", "most")), old, list(sized("most", -1)), api.ErrResource)
	refused(t, whole, old, list(sized("u", 2), named("t", many(-1, ints(9)))), api.ErrArg)
}

// TestGreatSources holds P1 and P14.1 of sources without rows, or without changes, beside such that have very many,
// which no call may put side by side.
func TestGreatSources(t *testing.T) {
	var long, gone []api.Many
	for i := range 40000 {
		long, gone = append(long, many(1<<20, ints(i))), append(gone, many(-1<<20, ints(i)))
	}
	old := list(named("long", long...), named("none"), sized("one", 1), sized("most", api.MaxMany))
	ch := list(named("most", many(-api.MaxMany, ints(1)), many(api.MaxMany, ints(2))), named("long", gone...))
	for _, c := range []api.Test{{}, same(0, 1), and(same(1, 2), same(0, 2))} {
		for _, names := range [][]string{{"long", "long", "none"}, {"none", "most", "long"}, {"long", "none", "most"}, {"most", "most", "none"}, {"none", "none", "most"}} {
			p := planOf(where(from(1, names...), c))
			brings(t, p, old, ch)
			brings(t, p, old, list(sized("one", 1)))
			costs(t, p, old, ch, 0)
		}
		brings(t, planOf(where(from(1, "long", "most", "long"), c)), old, nil)
		refused(t, planOf(where(from(1, "most", "long", "one"), c)), old, ch, api.ErrResource)
	}
	refused(t, planOf(from(1, "most")), old, ch, api.ErrResource)
	// All that is gone stands ahead of no changes: one row comes behind it, beside nothing.
	brings(t, planOf(from(1, "none", "long")), old, list(named("long", gone...), sized("none", 1)))
	costs(t, planOf(from(1, "none", "long")), old, list(named("long", gone...), sized("none", 1)), 0)
	var full []api.Many
	for i := range 2000 {
		full = append(full, many(1, ints(i)))
	}
	brings(t, planOf(from(1, "none", "one", "one")), old, list(named("none", full...)), full...)
	brings(t, planOf(telling(from(1, "one", "none"), tells(col(1)))), old, list(named("none", full...)), full...)
	brings(t, planOf(from(1, "long")), old, list(named("long", many(-1<<10, ints(7)), many(-3, ints(9)))), many(-1<<10, ints(7)), many(-3, ints(9)))
}

// TestErrors holds P14.1: errors of what is reckoned of the net rows that are kept, those that go too, and of that
// alone.
func TestErrors(t *testing.T) {
	old := list(named("t", many(2, row(num(1), text("a"))), many(1, row(num(3), nothing))), named("u", many(1, ints(1, 1))), named("v", many(2, row(num(1), nothing))))
	of := func(l ...api.Out) api.Part { return telling(from(2, "t"), l...) }
	come := list(named("t", many(1, ints(5, 5))))
	gone := list(named("t", many(-1, row(num(3), nothing))))
	words := list(named("t", many(-1, row(num(1), text("a")))))
	calm := list(named("t", many(1, ints(2, 1))))
	third := planOf(of(tells(past3())))
	refused(t, third, old, come, api.ErrOverflow)
	refused(t, third, old, gone, api.ErrOverflow)
	brings(t, third, old, words, many(-1, ints(math.MaxInt-1)))
	// Of rows that stay, or are in both, nothing is reckoned.
	brings(t, third, old, calm, many(1, ints(math.MaxInt)))
	brings(t, third, old, nil)
	second := planOf(of(tells(add(lit(1), col(1)))))
	refused(t, second, old, words, api.ErrType)
	refused(t, second, old, list(named("t", many(1, row(num(9), held(1))))), api.ErrType)
	refused(t, second, old, list(named("t", many(1, row(num(1), text("a"))))), api.ErrType)
	brings(t, second, old, gone, many(-1, row(nothing)))
	brings(t, second, old, calm, many(1, ints(2)))
	brings(t, planOf(where(of(tells(past3())), compared(api.OpLt, col(0), lit(3)))), old, list(come[0], gone[0]))
	brings(t, planOf(where(of(tells(unlike())), null(col(0)))), old, come)
	for _, e := range []api.Calc{unlike(), {}, calc(api.EAdd, lit(1)), calc(9), calc(api.ENeg, col(0), col(0))} {
		refused(t, planOf(of(tells(e))), old, calm, api.ErrType)
		refused(t, planOf(of(tells(lit(1)), tells(e))), old, calm, api.ErrType)
		brings(t, planOf(of(tells(e))), old, nil)
	}
	// Beside a source without rows, and beside rows that they don't join, rows that come are in no net row.
	joined := where(telling(from(2, "u", "t"), tells(add(col(2), lit(math.MaxInt-2)))), same(0, 2))
	brings(t, planOf(joined), old, come)
	refused(t, planOf(where(joined, api.Test{})), old, come, api.ErrOverflow)
	brings(t, planOf(where(joined, api.Test{})), list(old[0], named("u")), come)
	refused(t, planOf(where(joined, api.Test{})), list(old[0], named("u")), list(named("u", many(1, ints(4, 4)))), api.ErrOverflow)
	// Rows may be told as often as ever, and still their errors count.
	twice := list(named("v", many(-1, row(num(1), nothing)), many(1, row(num(1), text("b")))))
	refused(t, planOf(telling(from(2, "v"), tells(mul(col(0), col(1))))), old, twice, api.ErrType)
	brings(t, planOf(telling(from(2, "v"), tells(col(0)))), old, twice)
}

// TestErrTypeFirst holds P14.1: ErrType, if anything has it, wherever it stands; else the other error.
func TestErrTypeFirst(t *testing.T) {
	old := list(named("t", many(1, row(num(1), text("a"))), many(2, ints(3, math.MaxInt))), named("u", many(1, ints(1, 1))))
	ch := list(named("t", many(-1, row(num(1), text("a"))), many(-1, ints(3, math.MaxInt)), many(1, row(num(4), text("b")))))
	of := func(l ...api.Out) api.Part { return telling(from(2, "t"), l...) }
	words := add(col(1), lit(0)) // ErrType of all that but 3 and MaxInt
	further := add(col(1), lit(1))
	for _, p := range []api.Plan{
		planOf(of(tells(past()), tells(unlike()))),
		planOf(of(tells(unlike()), tells(past()))),
		planOf(of(tells(past()), tells(words))),
		planOf(of(tells(words), tells(past3()))),
		planOf(of(tells(further))),
		planOf(of(tells(past())), of(tells(unlike()))),
		planOf(of(tells(unlike())), of(tells(past()))),
		planOf(of(tells(past())), of(tells(col(0))), of(tells(col(0))), of(tells(words))),
		planOf(of(tells(words)), of(tells(col(0))), of(tells(past3()))),
		planOf(telling(from(2, "t", "u"), tells(past3()), tells(add(col(1), col(2))))),
		planOf(where(of(tells(further)), compared(api.OpGe, col(0), lit(3)))),
	} {
		refused(t, p, old, ch, api.ErrType)
	}
	for _, p := range []api.Plan{
		planOf(of(tells(col(1))), of(tells(past3()))),
		planOf(of(tells(past3())), of(tells(col(1)))),
		planOf(of(tells(lit(2)), tells(past3()), tells(past()))),
		planOf(where(of(tells(further)), compared(api.OpEq, col(0), lit(3)))),
		planOf(telling(from(2, "u"), tells(unlike())), of(tells(past3()))),
		planOf(where(of(tells(unlike())), null(col(0))), of(tells(past3()))),
	} {
		refused(t, p, old, ch, api.ErrOverflow)
	}
}

// TestOldAndNow holds P14.2: where what was there has no error, there is the error that what is there now has; where
// it has one, only rows that come and go count.
func TestOldAndNow(t *testing.T) {
	old := list(named("t", many(1, ints(1))), named("u", many(1, ints(1))))
	p := planOf(telling(from(1, "t", "u"), tells(add(col(0), add(col(1), lit(math.MaxInt-2))))))
	brings(t, p, old, nil)
	refused(t, p, old, list(named("u", many(1, ints(2)))), api.ErrOverflow)
	refused(t, p, old, list(named("u", many(1, row(text("a"))))), api.ErrType)
	refused(t, p, old, list(named("u", many(1, ints(2)), many(1, row(text("a"))))), api.ErrType)
	brings(t, p, old, list(named("u", many(1, ints(2)), many(1, row(text("a")))), named("t", many(-1, ints(1)))), many(-1, ints(math.MaxInt)))
	faulty := nowOf(old, list(named("u", many(1, ints(2)))))
	brings(t, p, faulty, list(named("t", many(1, ints(0)))), many(1, ints(math.MaxInt-1)), many(1, ints(math.MaxInt)))
	refused(t, p, faulty, list(named("u", many(-1, ints(2)))), api.ErrOverflow)
}
