package trace

import (
	"math"
	"slices"
	"strings"
	"testing"

	"belvedere/api"
	"belvedere/bag"
)

func num(n int) api.Value            { return api.Value{Kind: api.TInt, N: n} }
func text(s string) api.Value        { return api.Value{Kind: api.TText, S: s} }
func row(l ...api.Value) []api.Value { return l }

// many is a row that comes n times.
func many(n int, l ...api.Value) api.Many { return api.Many{Row: l, N: n} }

// put is the row of one number, n times.
func put(n, a int) api.Many { return many(n, num(a)) }

func changes(l ...api.Many) []api.Many { return l }

// at is an entry of the row of one number.
func at(scn, n, a int) api.Entry { return api.Entry{Scn: scn, N: n, Row: row(num(a))} }

func logOf(from int, l ...api.Entry) api.Log { return api.Log{From: from, List: l} }

var nothing = api.Value{}

const (
	most     = 2 * api.MaxRows // changes at a time
	greatest = math.MaxInt
	least    = math.MinInt
)

func sameEntry(a, b api.Entry) bool {
	return a.Scn == b.Scn && a.N == b.N && slices.Equal(a.Row, b.Row)
}

func sameLog(a, b api.Log) bool {
	return a.From == b.From && slices.EqualFunc(a.List, b.List, sameEntry)
}

func sameBag(a, b []api.Many) bool {
	return slices.EqualFunc(a, b, func(a, b api.Many) bool { return a.N == b.N && slices.Equal(a.Row, b.Row) })
}

// added holds Add to an answer without error.
func added(t *testing.T, l api.Log, scn int, ch []api.Many, want api.Log) {
	t.Helper()
	if got, err := Add(l, scn, ch); err != api.OK || !sameLog(got, want) {
		t.Errorf("Add(%+v, %d, %+v) = %+v, %d, want %+v", l, scn, ch, got, err, want)
	}
}

// refused holds Add to an error and the log as it was.
func refused(t *testing.T, l api.Log, scn int, ch []api.Many, want api.Errno) {
	t.Helper()
	if got, err := Add(l, scn, ch); err != want || !sameLog(got, l) {
		t.Errorf("Add(%+v, %d, %d rows) = %+v, %d, want the log and %d", l, scn, len(ch), got, err, want)
	}
}

func since(t *testing.T, l api.Log, scn int, want ...api.Many) {
	t.Helper()
	if got, ok := Since(l, scn); !ok || !sameBag(got, want) {
		t.Errorf("Since(%+v, %d) = %+v, %t, want %+v", l, scn, got, ok, want)
	}
}

func tooFar(t *testing.T, l api.Log, scn int) {
	t.Helper()
	if got, ok := Since(l, scn); ok || len(got) > 0 {
		t.Errorf("Since(%+v, %d) = %+v, %t, want nothing and false", l, scn, got, ok)
	}
}

func purged(t *testing.T, l api.Log, low int, want ...api.Entry) {
	t.Helper()
	if got := Purge(l, low); !sameLog(got, logOf(l.From, want...)) {
		t.Errorf("Purge(%+v, %d) = %+v, want %+v", l, low, got, want)
	}
}

// example is the chapter's log.
func example() api.Log { return logOf(3, at(4, -1, 1), at(4, 1, 2), at(4, 1, 2), at(6, -1, 2)) }

// rightLogs are logs that may be.
func rightLogs() map[string]api.Log {
	return map[string]api.Log{
		"the zero log":         {},
		"an empty list":        {List: []api.Entry{}},
		"without entries":      logOf(7),
		"from the end of time": logOf(greatest),
		"one just behind From": logOf(0, at(1, 1, 5)),
		"one that went":        logOf(0, at(1, -1, 5)),
		"one far behind From":  logOf(0, at(greatest, 1, 5)),
		"at the end of time":   logOf(greatest-1, at(greatest, 1, 5), at(greatest, -1, 5)),
		"the example":          example(),
		"one time":             logOf(2, at(3, 1, 5), at(3, 1, 5), at(3, -1, 4), at(3, 1, 6)),
		"rows in no order":     logOf(0, at(1, 1, 5), at(1, 1, 2), at(2, 1, 9), at(2, 1, 1)),
		"went ahead of coming": logOf(0, at(1, -1, 5), at(2, -1, 5), at(3, 1, 5)),
		"more at a time than Add lets come": logOf(0,
			slices.Repeat([]api.Entry{at(1, 1, 5)}, most+1)...),
		"any rows": logOf(0,
			api.Entry{Scn: 1, N: 1},
			api.Entry{Scn: 1, N: 1, Row: row()},
			api.Entry{Scn: 1, N: -1, Row: row(api.Value{Kind: -1, N: least, S: "a"})},
			api.Entry{Scn: 2, N: 1, Row: row(text(strings.Repeat("a", api.MaxText+1)))},
			api.Entry{Scn: 3, N: 1, Row: slices.Repeat(row(nothing), api.MaxCols+1)}),
	}
}

// wrongLogs are logs that may not be.
func wrongLogs() map[string]api.Log {
	wrong := map[string]api.Log{
		"From below 0":                  logOf(-1),
		"From below 0, with an entry":   logOf(-1, at(1, 1, 5)),
		"From below 0, with one at 0":   logOf(-1, at(0, 1, 5)),
		"the least From":                logOf(least),
		"the least From, with an entry": logOf(least, at(5, 1, 5)),
		"at From":                       logOf(3, at(3, 1, 5)),
		"at From 0":                     logOf(0, at(0, 1, 5)),
		"ahead of From":                 logOf(3, at(2, 1, 5)),
		"ahead of From 0":               logOf(0, at(-1, 1, 5)),
		"at the least time":             logOf(0, at(least, 1, 5)),
		"at From, then behind":          logOf(3, at(3, 1, 5), at(4, 1, 5)),
		"ahead of From, then behind":    logOf(3, at(2, 1, 5), at(4, 1, 5)),
		"all at From":                   logOf(3, at(3, 1, 5), at(3, -1, 5)),
		"all ahead of From":             logOf(3, at(1, 1, 5), at(2, -1, 5)),
		"behind, then at From":          logOf(3, at(4, 1, 5), at(3, 1, 5)),
		"at From, the end of time":      logOf(greatest, at(greatest, 1, 5)),
		"ahead of the end of time":      logOf(greatest, at(greatest-1, 1, 5)),
		"falls":                         logOf(3, at(5, 1, 5), at(4, 1, 5)),
		"falls at the beginning":        logOf(3, at(5, 1, 5), at(4, 1, 5), at(6, 1, 5)),
		"falls in the middle":           logOf(3, at(4, 1, 5), at(6, 1, 5), at(5, 1, 5), at(7, 1, 5)),
		"falls at the end":              logOf(3, at(4, 1, 5), at(5, 1, 5), at(6, -1, 5), at(5, 1, 5)),
		"falls below the first alone":   logOf(3, at(5, 1, 5), at(5, 1, 6), at(4, 1, 5)),
		"falls from the end of time":    logOf(0, at(greatest, 1, 5), at(1, 1, 5)),
	}
	for _, n := range []int{0, 2, -2, api.MaxMany, greatest, least} {
		name := map[int]string{0: "0", 2: "2", -2: "-2", api.MaxMany: "MaxMany", greatest: "the greatest", least: "the least"}[n]
		wrong["N "+name+" alone"] = logOf(3, at(4, n, 5))
		wrong["N "+name+" first"] = logOf(3, at(4, n, 5), at(4, 1, 5), at(5, -1, 5))
		wrong["N "+name+" between"] = logOf(3, at(4, 1, 5), at(4, n, 5), at(5, -1, 5))
		wrong["N "+name+" last"] = logOf(3, at(4, 1, 5), at(4, -1, 5), at(5, n, 5))
	}
	return wrong
}

// wrongChanges are lists that are no bag.
func wrongChanges() map[string][]api.Many {
	return map[string][]api.Many{
		"falls":                   changes(put(1, 2), put(1, 1)),
		"falls at the end":        changes(put(1, 1), put(-1, 3), put(1, 2)),
		"a row twice":             changes(put(1, 1), put(1, 1)),
		"a row that comes, goes":  changes(put(1, 1), put(-1, 1)),
		"no values twice":         changes(many(1), many(1)),
		"number 0":                changes(put(0, 1)),
		"number 0 last":           changes(put(1, 1), put(0, 2)),
		"past MaxMany":            changes(put(api.MaxMany+1, 1)),
		"past MaxMany below 0":    changes(put(-api.MaxMany-1, 1)),
		"the greatest number":     changes(put(greatest, 1)),
		"the least number":        changes(put(least, 1)),
		"the least number last":   changes(put(1, 1), put(least, 2)),
		"too many, and falls":     changes(put(most+1, 2), put(1, 1)),
		"too many, and 0":         changes(put(most+1, 1), put(0, 2)),
		"too many by a row twice": changes(put(most, 1), put(1, 1)),
	}
}

// TestNew holds P16.1, of New.
func TestNew(t *testing.T) {
	for _, scn := range []int{0, 1, 3, greatest} {
		if l := New(scn); !sameLog(l, logOf(scn)) || !Right(l) {
			t.Errorf("New(%d) = %+v", scn, l)
		}
	}
	for _, scn := range []int{-1, -3, least} {
		if l := New(scn); !sameLog(l, logOf(scn)) || Right(l) {
			t.Errorf("New(%d) = %+v, which may be: %t", scn, l, Right(l))
		}
	}
}

// TestRight holds P16.1, of Right.
func TestRight(t *testing.T) {
	for name, l := range rightLogs() {
		if !Right(l) {
			t.Errorf("%s: Right(%+v) is false", name, l)
		}
	}
	for name, l := range wrongLogs() {
		if Right(l) {
			t.Errorf("%s: Right(%+v) is true", name, l)
		}
	}
}

// TestExample holds the chapter's examples.
func TestExample(t *testing.T) {
	first := logOf(3, example().List[:3]...)
	added(t, New(3), 4, changes(put(-1, 1), put(2, 2)), first)
	added(t, first, 6, changes(put(-1, 2)), example())
	since(t, example(), 3, put(-1, 1), put(1, 2))
	tooFar(t, example(), 2)
	purged(t, example(), 4, at(6, -1, 2))
}

// TestAdd holds P16.1, of Add: an entry for each time that each row came or went, in order.
func TestAdd(t *testing.T) {
	added(t, New(0), 1, nil, logOf(0))
	added(t, New(0), 1, changes(), logOf(0))
	added(t, New(0), 1, changes(put(1, 5)), logOf(0, at(1, 1, 5)))
	added(t, New(0), 9, changes(put(-1, 5)), logOf(0, at(9, -1, 5)))
	added(t, New(2), 5, changes(put(3, 5)), logOf(2, at(5, 1, 5), at(5, 1, 5), at(5, 1, 5)))
	added(t, New(2), 5, changes(put(-2, 5)), logOf(2, at(5, -1, 5), at(5, -1, 5)))
	added(t, New(2), 5, changes(put(-2, 1), put(1, 2), put(-1, 3), put(2, 4)),
		logOf(2, at(5, -1, 1), at(5, -1, 1), at(5, 1, 2), at(5, -1, 3), at(5, 1, 4), at(5, 1, 4)))
	added(t, example(), 7, nil, example())
	added(t, example(), 7, changes(put(1, 2)), logOf(3, append(example().List, at(7, 1, 2))...))
	added(t, example(), 8, changes(put(-1, 0), put(1, 9)), logOf(3, append(example().List, at(8, -1, 0), at(8, 1, 9))...))
	added(t, New(0), 1, changes(many(2), many(-1, nothing), many(1, num(1), text("a")), many(1, text("a"))), logOf(0,
		api.Entry{Scn: 1, N: 1}, api.Entry{Scn: 1, N: 1}, api.Entry{Scn: 1, N: -1, Row: row(nothing)},
		api.Entry{Scn: 1, N: 1, Row: row(num(1), text("a"))}, api.Entry{Scn: 1, N: 1, Row: row(text("a"))}))
	long := many(-1, text(strings.Repeat("a", api.MaxText+1)), api.Value{Kind: 9, N: least, S: "x"})
	added(t, New(0), 1, changes(long), logOf(0, api.Entry{Scn: 1, N: -1, Row: long.Row}))
	for name, l := range rightLogs() {
		if l.From == greatest || len(l.List) > 0 && l.List[len(l.List)-1].Scn == greatest {
			refused(t, l, greatest, changes(put(1, 5)), api.ErrArg)
			continue
		}
		want := logOf(l.From, append(slices.Clone(l.List), at(greatest, 1, 5))...)
		if got, err := Add(l, greatest, changes(put(1, 5))); err != api.OK || !sameLog(got, want) || !Right(got) {
			t.Errorf("%s: Add answers %+v, %d", name, got, err)
		}
	}
}

// TestAddTimes holds P16.1: what is added is behind From and all entries.
func TestAddTimes(t *testing.T) {
	one := changes(put(1, 5))
	for _, c := range []struct {
		l     api.Log
		first int // at which something may be added
	}{
		{New(0), 1},
		{New(3), 4},
		{logOf(0, at(1, 1, 5)), 2},
		{logOf(3, at(9, 1, 5)), 10},
		{example(), 7},
		{Purge(example(), 4), 7},
		{Purge(example(), 6), 4},
	} {
		for _, scn := range []int{c.first, c.first + 1, c.first + 100, greatest} {
			added(t, c.l, scn, one, logOf(c.l.From, append(slices.Clone(c.l.List), at(scn, 1, 5))...))
			added(t, c.l, scn, nil, c.l)
		}
		for scn := -2; scn < c.first; scn++ {
			refused(t, c.l, scn, one, api.ErrArg)
			refused(t, c.l, scn, nil, api.ErrArg)
		}
		refused(t, c.l, least, one, api.ErrArg)
	}
}

// TestAddWrong holds P16.1: ErrArg of a log that may not be and of changes that are no bag, ahead of ErrLong.
func TestAddWrong(t *testing.T) {
	for _, l := range wrongLogs() {
		for _, scn := range []int{least, -1, 0, 1, 4, 100, greatest} {
			refused(t, l, scn, changes(put(1, 5)), api.ErrArg)
			refused(t, l, scn, nil, api.ErrArg)
			refused(t, l, scn, changes(put(most+1, 5)), api.ErrArg)
		}
	}
	for _, ch := range wrongChanges() {
		refused(t, New(0), 1, ch, api.ErrArg)
		refused(t, example(), 7, ch, api.ErrArg)
		refused(t, example(), 6, ch, api.ErrArg)
		refused(t, logOf(-1), 6, ch, api.ErrArg)
	}
	refused(t, New(0), 0, changes(put(most+1, 5)), api.ErrArg)
	refused(t, example(), 6, changes(put(api.MaxMany, 5)), api.ErrArg)
}

// each is n rows that rise, each that often.
func each(n, often int) []api.Many {
	var l []api.Many
	for i := range n {
		l = append(l, put(often, i))
	}
	return l
}

// TestAddMost holds P16.1: just 2 MaxRows changes at a time, and one more.
func TestAddMost(t *testing.T) {
	for _, ch := range [][]api.Many{
		{put(most, 1)},
		{put(-most, 1)},
		{put(most-1, 1), put(1, 2)},
		{put(most/2, 1), put(-most/2, 2)},
		{put(-most/2, 1), put(most/2, 2)},
		{put(-1, 1), put(most-1, 2)},
		each(most, 1),
		each(most, -1),
		each(most/2, 2),
		each(most/4, -4),
	} {
		want := logOf(3)
		for _, m := range ch {
			e := api.Entry{Scn: 5, N: max(-1, min(m.N, 1)), Row: m.Row}
			want.List = append(want.List, slices.Repeat([]api.Entry{e}, max(m.N, -m.N))...)
		}
		if len(want.List) != most {
			t.Fatalf("%d changes", len(want.List))
		}
		added(t, New(3), 5, ch, want)
		if again, err := Add(want, 6, changes(put(-most, 7))); err != api.OK || len(again.List) != 2*most {
			t.Errorf("as many again at another time: %d entries, %d", len(again.List), err)
		}
	}
	for _, ch := range [][]api.Many{
		{put(most+1, 1)},
		{put(-most-1, 1)},
		{put(most, 1), put(1, 2)},
		{put(most, 1), put(-1, 2)},
		{put(-most, 1), put(1, 2)},
		{put(-most, 1), put(-1, 2)},
		{put(-1, 1), put(most, 2)},
		{put(most/2, 1), put(-most/2, 2), put(1, 3)},
		{put(most, 1), put(-most, 2)},
		each(most+1, 1),
		each(most+1, -1),
		each(most/2+1, 2),
		{put(api.MaxMany, 1)},
		{put(-api.MaxMany, 1)},
		{put(1, 1), put(api.MaxMany, 2), put(-api.MaxMany, 3)},
		each(most+1, api.MaxMany),
		each(most+1, -api.MaxMany),
	} {
		refused(t, New(3), 5, ch, api.ErrLong)
		refused(t, example(), 7, ch, api.ErrLong)
	}
}

// TestSince holds P16.1, of Since.
func TestSince(t *testing.T) {
	l := logOf(3, at(5, 1, 1), at(5, 1, 1), at(5, -1, 2), at(6, 1, 0), at(6, -1, 1), at(9, 1, 2), at(9, 1, 3))
	for _, scn := range []int{least, -1, 0, 2} {
		tooFar(t, l, scn)
	}
	for _, scn := range []int{3, 4} {
		since(t, l, scn, put(1, 0), put(1, 1), put(1, 3))
	}
	since(t, l, 5, put(1, 0), put(-1, 1), put(1, 2), put(1, 3))
	for _, scn := range []int{6, 7, 8} {
		since(t, l, scn, put(1, 2), put(1, 3))
	}
	for _, scn := range []int{9, 10, greatest} {
		since(t, l, scn)
	}
	since(t, New(0), 0)
	since(t, New(3), 3)
	since(t, New(3), greatest)
	since(t, New(greatest), greatest)
	tooFar(t, New(3), 2)
	tooFar(t, New(0), -1)
	tooFar(t, New(greatest), greatest-1)
	since(t, logOf(0, at(greatest, -1, 5)), greatest-1, put(-1, 5))
	since(t, logOf(0, at(greatest, -1, 5)), greatest)
	for _, l := range wrongLogs() {
		for _, scn := range []int{least, -1, 0, 3, 4, 5, 100, greatest} {
			tooFar(t, l, scn)
		}
	}
}

// TestSinceSums holds P16.1: rows that came and went again aren't told, others once, with what they sum up to.
func TestSinceSums(t *testing.T) {
	since(t, logOf(0, at(1, 1, 5), at(2, -1, 5)), 0)
	since(t, logOf(0, at(1, 1, 5), at(2, -1, 5)), 1, put(-1, 5))
	since(t, logOf(0, at(1, -1, 5), at(1, 1, 5), at(1, 1, 4)), 0, put(1, 4))
	since(t, logOf(0, at(1, 1, 5), at(2, -1, 5), at(3, 1, 5), at(4, 1, 5)), 0, put(2, 5))
	since(t, logOf(0, at(1, 1, 5), at(2, -1, 5), at(3, 1, 5), at(4, 1, 5)), 1, put(1, 5))
	since(t, logOf(0, at(1, -1, 7), at(2, -1, 7), at(3, -1, 7)), 0, put(-3, 7))
	since(t, logOf(0, at(1, 1, 9), at(1, 1, 2), at(2, 1, 5), at(2, 1, 2)), 0, put(2, 2), put(1, 5), put(1, 9))
	l := logOf(0,
		api.Entry{Scn: 1, N: 1, Row: row(text("a"))},
		api.Entry{Scn: 1, N: -1, Row: row(num(1), nothing)},
		api.Entry{Scn: 2, N: 1, Row: row(num(1))},
		api.Entry{Scn: 2, N: 1},
		api.Entry{Scn: 3, N: 1, Row: row()},
		api.Entry{Scn: 3, N: -1, Row: row(nothing)},
		api.Entry{Scn: 3, N: -1, Row: row(api.Value{Kind: api.TText, N: 1, S: "a"})})
	since(t, l, 0, many(2), many(-1, nothing), many(1, num(1)), many(-1, num(1), nothing), many(1, text("a")),
		many(-1, api.Value{Kind: api.TText, N: 1, S: "a"}))
	if got, ok := Since(l, 2); !ok || !bag.Right(got) {
		t.Errorf("%+v, %t", got, ok)
	}
	long, want := logOf(0), []api.Many{}
	for i := range 20000 {
		long.List = append(long.List, at(i+1, 1-2*(i%2), i%100))
	}
	for a := range 100 {
		want = append(want, put(200*(1-2*(a%2)), a))
	}
	since(t, long, 0, want...)
}

// TestLow holds P16.2, of Low.
func TestLow(t *testing.T) {
	for _, c := range []struct {
		l         []int
		now, want int
	}{
		{nil, 9, 9},
		{[]int{}, 0, 0},
		{nil, greatest, greatest},
		{nil, least, least},
		{[]int{5}, 9, 5},
		{[]int{9}, 9, 9},
		{[]int{10}, 9, 9},
		{[]int{5, 4}, 9, 4},
		{[]int{4, 5}, 9, 4},
		{[]int{7, 4, 5}, 9, 4},
		{[]int{12, 11}, 9, 9},
		{[]int{12, 8, 11}, 9, 8},
		{[]int{3, 3}, 3, 3},
		{[]int{0}, 9, 0},
		{[]int{2, -1}, 9, -1},
		{[]int{-2, -1}, -5, -5},
		{[]int{greatest, least}, 0, least},
		{[]int{greatest}, greatest, greatest},
		{[]int{greatest}, least, least},
	} {
		if got := Low(c.l, c.now); got != c.want {
			t.Errorf("Low(%v, %d) = %d, want %d", c.l, c.now, got, c.want)
		}
	}
}

// TestPurge holds P16.2, of Purge: the entries behind low alone stay, and From.
func TestPurge(t *testing.T) {
	l := example()
	for _, low := range []int{least, -1, 0, 2, 3} {
		purged(t, l, low, l.List...)
	}
	for _, low := range []int{4, 5} {
		purged(t, l, low, l.List[3])
	}
	for _, low := range []int{6, 7, greatest} {
		purged(t, l, low)
	}
	purged(t, New(3), least)
	purged(t, New(3), 3)
	purged(t, New(3), greatest)
	for name, l := range rightLogs() {
		for _, low := range []int{least, 0, 1, 2, greatest - 1, greatest} {
			if !Right(Purge(l, low)) {
				t.Errorf("%s: purged up to %d it may not be", name, low)
			}
		}
	}
}

// TestPurgeWrong holds P16.2: logs that may not be are purged too.
func TestPurgeWrong(t *testing.T) {
	falls := logOf(-5, at(9, 1, 1), at(2, 7, 2), at(9, 0, 3), at(-7, least, 4), at(3, 1, 5), at(2, 1, 6))
	purged(t, falls, least, falls.List...)
	purged(t, falls, -8, falls.List...)
	purged(t, falls, -7, at(9, 1, 1), at(2, 7, 2), at(9, 0, 3), at(3, 1, 5), at(2, 1, 6))
	purged(t, falls, 2, at(9, 1, 1), at(9, 0, 3), at(3, 1, 5))
	purged(t, falls, 3, at(9, 1, 1), at(9, 0, 3))
	purged(t, falls, 8, at(9, 1, 1), at(9, 0, 3))
	purged(t, falls, 9)
	purged(t, logOf(least), 0)
	purged(t, logOf(3, at(least, 1, 1), at(greatest, 1, 2)), least, at(greatest, 1, 2))
	purged(t, logOf(3, at(least, 1, 1), at(greatest, 1, 2)), greatest)
	for _, l := range wrongLogs() {
		for _, low := range []int{least, -1, 0, 3, 4, 5, greatest} {
			var want []api.Entry
			for _, e := range l.List {
				if e.Scn > low {
					want = append(want, e)
				}
			}
			purged(t, l, low, want...)
		}
	}
}

// TestAfterPurge holds P16.1 and P16.2: a purged log is asked and goes on as before, since From stays.
func TestAfterPurge(t *testing.T) {
	l := Purge(example(), 4)
	since(t, l, 3, put(-1, 2))
	since(t, l, 5, put(-1, 2))
	since(t, l, 6)
	tooFar(t, l, 2)
	l = Purge(l, greatest)
	since(t, l, 3)
	tooFar(t, l, 2)
	refused(t, l, 3, changes(put(1, 1)), api.ErrArg)
	added(t, l, 4, changes(put(1, 1)), logOf(3, at(4, 1, 1)))
}
