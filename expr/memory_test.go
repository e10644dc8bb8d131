package expr

import (
	"math"
	"reflect"
	"slices"
	"testing"

	"belvedere/api"
)

// spare is l with spare room, which holds something.
func spare[T any](l []T, more T) []T { return append(slices.Clip(l), more, more)[: len(l) : len(l)+2] }

func roomyCalc(e api.Calc) api.Calc {
	args := []api.Calc{}
	for _, a := range e.Args {
		args = append(args, roomyCalc(a))
	}
	e.Args = spare(args, col(77, lit(78)))
	return e
}

func roomyTest(c api.Test) api.Test {
	args := []api.Test{}
	for _, a := range c.Args {
		args = append(args, roomyTest(a))
	}
	c.L, c.R = roomyCalc(c.L), roomyCalc(c.R)
	c.Args = spare(args, null(col(79)))
	return c
}

// wholeCalc and wholeTest are copies with the spare room of all lists.
func wholeCalc(e api.Calc) api.Calc {
	args := []api.Calc{}
	for _, a := range e.Args[:cap(e.Args)] {
		args = append(args, wholeCalc(a))
	}
	e.Args = args
	return e
}

func wholeTest(c api.Test) api.Test {
	args := []api.Test{}
	for _, a := range c.Args[:cap(c.Args)] {
		args = append(args, wholeTest(a))
	}
	c.L, c.R, c.Args = wholeCalc(c.L), wholeCalc(c.R), args
	return c
}

// spots are where the elements of lists stand, those of their spare room too, and how often one stands in a list.
type spots map[any]int

func (p spots) calcs(l []api.Calc) {
	l = l[:cap(l)]
	for i := range l {
		p[&l[i]]++
		p.calcs(l[i].Args)
	}
}

func (p spots) tests(l []api.Test) {
	l = l[:cap(l)]
	for i := range l {
		p[&l[i]]++
		p.calcs(l[i].L.Args)
		p.calcs(l[i].R.Args)
		p.tests(l[i].Args)
	}
}

// rich are conditions with lists at all their places, spare room in each.
func rich() []api.Test {
	e := add(mul(col(1), neg(col(0))), col(2, lit(1), past()))
	a, b := compared(api.OpLt, e, val(num(3), e, e)), null(col(0, e))
	full := api.Test{Kind: api.COr, Op: 3, L: e, R: e, Args: []api.Test{a, b, and(a, b)}}
	l := []api.Test{a, b, full, not(full), and(), and(a), and(a, b), and(a, and(b, full), api.Test{}, and(and(not(a), full))), {L: e, Args: []api.Test{a}}}
	for i, c := range l {
		l[i] = roomyTest(c)
	}
	return l
}

// TestNothingIsChanged holds rule 3: what is handed in stays as it was, its spare room too.
func TestNothingIsChanged(t *testing.T) {
	all := spare([]api.Value{num(math.MaxInt), num(4), text("a")}, num(9))
	rowBefore := slices.Clone(all[:cap(all)])
	for _, c := range rich() {
		before := wholeTest(c)
		for n := range 4 {
			Holds(c, all[:n])
			Eval(c.L, all[:n])
			Eval(c.R, all[:n])
		}
		Reads(c.L)
		Reads(c.R)
		Asks(c)
		Both(c)
		if !reflect.DeepEqual(wholeTest(c), before) {
			t.Errorf("%+v has become %+v", before, wholeTest(c))
		}
	}
	if !slices.Equal(all[:cap(all)], rowBefore) {
		t.Errorf("the row %+v has become %+v", rowBefore, all[:cap(all)])
	}
}

// TestNewMemory holds rule 3: Both's answer is new memory, and no two of its lists share any.
func TestNewMemory(t *testing.T) {
	for _, c := range rich() {
		given := spots{}
		given.tests([]api.Test{c})
		for name, c := range map[string]api.Test{"once": c, "twice": and(c, c), "of one list": not(and(c, c, c))} {
			answer := Both(c)
			told := spots{}
			told.tests(answer)
			for at, n := range told {
				if n > 1 {
					t.Errorf("%s: two lists of Both(%+v) share memory", name, c)
				}
				if given[at] > 0 {
					t.Errorf("%s: Both(%+v) shares memory with what was handed in", name, c)
				}
			}
		}
	}
}

// TestAnswersAreApart holds rules 3 and 4: what was answered doesn't turn when what was handed in does, and the other
// way round, and the same call answers the same again.
func TestAnswersAreApart(t *testing.T) {
	c := or(compared(api.OpEq, add(col(0), lit(1)), val(num(2), col(5))), not(null(col(1))))
	first, asked := Both(and(c, c)), Asks(c)
	before := wholeTest(and(first...))
	c.Args[0].L.Args[0].At = 66
	c.Args[0].R.Args[0].At = 67
	c.Args[1].Args[0].L.At = 68
	if !reflect.DeepEqual(wholeTest(and(first...)), before) {
		t.Errorf("what was answered turned: %+v", first)
	}
	if got, want := Asks(c), []int{66, 67, 68}; !slices.Equal(got, want) || !slices.Equal(asked, []int{0, 1, 5}) {
		t.Errorf("Asks: %v behind %v", got, asked)
	}
	first[0].Args[0].L.Args[0].At = 88
	if first[1].Args[0].L.Args[0].At != 0 || c.Args[0].L.Args[0].At != 66 {
		t.Errorf("an answer's list turned others: %+v, %+v", first[1], c)
	}
	again := Both(c)
	for i := range asked {
		asked[i] = -1
	}
	if !likes(again, []api.Test{c}) || !slices.Equal(Asks(c), []int{66, 67, 68}) {
		t.Errorf("the same call answers otherwise: %+v", again)
	}
}
