package exec

import (
	"iter"
	"reflect"
	"slices"
	"testing"

	"belvedere/api"
	"belvedere/bag"
)

// first answers the first rows that l tells, n at most, and stops.
func first(l iter.Seq[[]api.Value], n int) [][]api.Value {
	var rows [][]api.Value
	if n == 0 {
		return rows
	}
	for r := range l {
		if rows = append(rows, r); len(rows) == n {
			break
		}
	}
	return rows
}

// TestEachStops holds P13.2: the rows that List answers, one after the other, till whoever asks stops, at the first, in
// the midst, among rows that are alike, at the last, and not at all.
func TestEachStops(t *testing.T) {
	l := []api.Named{named("t", many(3, ints(1, 5)), many(1, ints(1, 6)), many(2, ints(2, 5)), many(4, row(text("a"), nothing))), named("u", many(2, ints(1)), many(1, ints(2)))}
	joined := api.Part{From: []string{"t", "u"}, Widths: []int{2, 1}, Where: same(0, 2), Outs: columns(1, 0)}
	for _, p := range []api.Plan{
		planOf(of(columns(0, 1)...)),
		planOf(of(columns(1)...), of(columns(0)...)),
		planOf(joined),
		planOf(once(joined)),
		planOf(by(of(tells(col(1)), counts()), 1)),
		planOf(of(counts())),
	} {
		all, err := List(p, l)
		if err != api.OK || len(all) == 0 {
			t.Fatalf("List(%+v) = %+v, %d", p, all, err)
		}
		each := Each(p, l)
		for n := range len(all) + 2 {
			if got := first(each, n); !alikeRows(got, all[:min(n, len(all))]) {
				t.Errorf("the first %d of %+v: %+v, want %+v", n, p, got, all)
			}
		}
		if got := slices.Collect(each); !alikeRows(got, all) {
			t.Errorf("Each(%+v) tells %+v, want %+v", p, got, all)
		}
	}
}

// TestEachIsNotAskedAgain holds P13.2: once whoever asks has stopped nothing more is told.
func TestEachIsNotAskedAgain(t *testing.T) {
	l := []api.Named{named("t", many(3, ints(1, 5)), many(2, ints(2, 5)))}
	for n := 1; n <= 5; n++ {
		calls := 0
		Each(planOf(of(columns(0)...)), l)(func([]api.Value) bool {
			calls++
			return calls < n
		})
		if calls != n {
			t.Errorf("asked %d times, though the %dth was the last", calls, n)
		}
	}
}

// TestEachOfNone holds P13.2: no row is told if there is none, and none if there is an error.
func TestEachOfNone(t *testing.T) {
	l := []api.Named{named("t", many(1, row(num(1), num(2))), many(1, row(text("a"), num(2)))), named("none"), sized("many", 2001)}
	sum := add(col(0), lit(1))
	for _, p := range []api.Plan{
		{},
		planOf(of()),
		planOf(from(2, "gone")),
		planOf(from(1, "t")),
		planOf(from(1, "many")),
		planOf(from(2, "none")),
		planOf(where(of(columns(0)...), same(0, 1))),
		planOf(of(tells(sum))),
		planOf(of(columns(0)...), of(tells(sum))),
		planOf(of(columns(0)...), of(tells(past()))),
		planOf(of(gives(api.ASum, col(0)))),
	} {
		for r := range Each(p, l) {
			t.Errorf("Each(%+v) tells %+v", p, r)
		}
	}
}

// TestEachWithinEach holds P13.2: one that is asked for within another one doesn't stop it.
func TestEachWithinEach(t *testing.T) {
	l := []api.Named{named("t", many(2, ints(1, 5)), many(1, ints(2, 7)))}
	each := Each(planOf(of(columns(0, 1)...)), l)
	var met []int
	for a := range each {
		for b := range each {
			met = append(met, 10*a[0].N+b[0].N)
			if b[0].N == 2 {
				break
			}
		}
	}
	if want := []int{11, 11, 12, 11, 11, 12, 21, 21, 22}; !slices.Equal(met, want) {
		t.Errorf("met %v, want %v", met, want)
	}
}

// made is a plan and what is there, with spare room at all places.
func made() (api.Plan, []api.Named) {
	rows := append(make([]api.Many, 0, 8), many(2, append(make([]api.Value, 0, 4), ints(3, 5)...)), many(1, append(make([]api.Value, 0, 4), ints(4, 3)...)))
	l := append(make([]api.Named, 0, 4), named("t", rows...), named("u", rows[:1:2]...))
	p := where(from(2, "t", "u"), and(some(col(0)), same(0, 2), or(some(col(1)), null(col(2))), compared(api.OpLt, col(2), lit(9))))
	p.Outs = append(make([]api.Out, 0, 9), tells(col(1)), tells(col(0)))
	p.Where.Args = append(make([]api.Test, 0, 9), p.Where.Args...)
	q := once(by(telling(from(2, "t", "t"), tells(col(1)), gives(api.AMin, add(col(0), lit(1)))), append(make([]int, 0, 9), 3, 1)...))
	r := telling(from(2, "u"), columns(0, 1)...)
	return planOf(p, q, r), l
}

// whole is all rows of l, with all spare room.
func whole(l []api.Named) [][]api.Many {
	var all [][]api.Many
	for _, n := range l[:cap(l)] {
		var rows []api.Many
		for _, m := range n.Rows[:cap(n.Rows)] {
			rows = append(rows, many(m.N, m.Row[:cap(m.Row)]))
		}
		all = append(all, rows)
	}
	return all
}

// TestNothingIsChanged holds rule 3: what is handed in stays as it was, its spare room too.
func TestNothingIsChanged(t *testing.T) {
	p, l := made()
	wantP, wantL := made()
	spare := func(p api.Plan) []api.Test { return p.Parts[0].Where.Args[:cap(p.Parts[0].Where.Args)] }
	for _, call := range []func(){
		func() { Run(p, l) },
		func() { List(p, l) },
		func() { first(Each(p, l), 99) },
		func() { first(Each(p, l), 2) },
	} {
		call()
		if !reflect.DeepEqual(p, wantP) || !reflect.DeepEqual(spare(p), spare(wantP)) {
			t.Errorf("%+v has become %+v", wantP, p)
		}
		if !reflect.DeepEqual(l, wantL) || !reflect.DeepEqual(whole(l), whole(wantL)) {
			t.Errorf("%+v has become %+v", wantL, l)
		}
	}
}

// apart holds that no row of an answer shares memory with another one, or with what was handed in.
func apart(t *testing.T, answer [][]api.Value, l []api.Named) {
	t.Helper()
	met := map[*api.Value]bool{}
	for _, n := range l {
		for _, m := range n.Rows {
			for i := range m.Row[:cap(m.Row)] {
				met[&m.Row[:cap(m.Row)][i]] = true
			}
		}
	}
	for _, r := range answer {
		for i := range r[:cap(r)] {
			at := &r[:cap(r)][i]
			if met[at] {
				t.Errorf("the row %+v shares memory", r)
			}
			met[at] = true
		}
	}
}

// bare is the rows of a bag, each once.
func bare(l []api.Many) [][]api.Value {
	var rows [][]api.Value
	for _, m := range l {
		rows = append(rows, m.Row)
	}
	return rows
}

// TestNewMemory holds rule 3: answers are new memory, those that Each tells too, however often it is asked.
func TestNewMemory(t *testing.T) {
	p, l := made()
	_, wantL := made()
	told, err := Run(p, l)
	if err != api.OK || len(told) != 3 {
		t.Fatalf("%+v, %d", told, err)
	}
	want := bag.Of(told)
	rows, _ := List(p, l)
	each := Each(p, l)
	all := slices.Concat(bare(told), rows, slices.Collect(each), slices.Collect(each), first(each, 3))
	apart(t, all, l)
	for _, r := range all {
		for i := range r {
			r[i] = text("x")
		}
	}
	for i := range told {
		told[i].N = 99
	}
	if !reflect.DeepEqual(l, wantL) {
		t.Errorf("a turned answer has turned %+v", l)
	}
	gathers(t, p, l, want...)
	if got := slices.Collect(each); !alikeRows(got, bag.Rows(want)) {
		t.Errorf("turned rows have turned what is told: %+v", got)
	}
}

// TestEachKeepsNothing holds rule 3: Each tells what was there when it was called, whatever becomes of what was handed
// in, also while it is asked.
func TestEachKeepsNothing(t *testing.T) {
	p, l := made()
	want, _ := List(p, l)
	each := Each(p, l)
	l[0].Rows[0].Row[0], l[0].Rows[0].N = num(77), 9
	p.Parts[0].Outs[0] = tells(lit(5))
	p.Parts[1].Group[0] = 0
	if got := slices.Collect(each); !alikeRows(got, want) {
		t.Errorf("Each tells %+v, want %+v", got, want)
	}
	var got [][]api.Value
	for r := range each {
		got = append(got, slices.Clone(r))
		l[1].Rows[0].Row[1], l[1].Name, p.Parts[2].From[0] = num(len(got)), "w", "w"
		clear(r)
	}
	if !alikeRows(got, want) {
		t.Errorf("Each tells %+v, want %+v", got, want)
	}
}

// TestAgain holds rule 4: the same call answers the same again.
func TestAgain(t *testing.T) {
	var rows []api.Many
	for i := range 40 {
		rows = append(rows, many(1, ints(i, i%3)))
	}
	l := []api.Named{named("t", rows...)}
	for _, p := range []api.Plan{
		planOf(where(telling(from(2, "t", "t"), columns(0, 2)...), same(1, 3))),
		planOf(by(telling(from(2, "t", "t"), tells(col(1)), gives(api.ASum, col(2))), 1, 3)),
		planOf(once(telling(from(2, "t", "t"), columns(3, 1)...))),
	} {
		want, err := Run(p, l)
		if err != api.OK || len(want) < 3 {
			t.Fatalf("%+v, %d", want, err)
		}
		for range 20 {
			gathers(t, p, l, want...)
		}
	}
}

// TestDeep holds P1 of what is nested as deep as may be.
func TestDeep(t *testing.T) {
	const deep = 1<<16 - 8
	e, c, both := col(0), null(col(1)), same(0, 2)
	for range deep {
		e, c, both = add(e, lit(1)), not(c), and(both)
	}
	l := []api.Named{named("t", many(2, row(num(1), nothing)), many(1, ints(2, 5)))}
	gathers(t, planOf(where(of(tells(e)), c)), l, many(2, ints(1+deep)))
	gathers(t, planOf(where(of(gives(api.ASum, e)), c)), l, many(1, ints(2+2*deep)))
	gathers(t, planOf(where(telling(from(2, "t", "t"), tells(e)), both)), l, many(4, ints(1+deep)), many(1, ints(2+deep)))
	broad := where(telling(from(2, "t", "t"), counts()), and(slices.Repeat([]api.Test{same(0, 2), some(col(3)), compared(api.OpLe, col(1), col(3))}, 20000)...))
	gathers(t, planOf(broad), l, many(1, ints(1)))
}
