package trace

import (
	"reflect"
	"slices"
	"testing"

	"belvedere/api"
)

// spare is l with room behind it, in which something stands.
func spare[T any](more T, l ...T) []T {
	return append(slices.Clone(l), more)[:len(l)]
}

// spareRow is a row with spare room.
func spareRow(a int) []api.Value { return spare(text("spare"), num(a), text("a")) }

// madeLog is a log that may be, or one whose last entry may not be; all lists with spare room.
func madeLog(last int) api.Log {
	entry := func(scn, n, a int) api.Entry { return api.Entry{Scn: scn, N: n, Row: spareRow(a)} }
	return logOf(3, spare(entry(9, 1, 9), entry(4, 1, 2), entry(4, 1, 2), entry(5, -1, 2), entry(6, -1, 3), entry(7, last, 1))...)
}

// madeChanges are changes, the last row with that number; all lists with spare room.
func madeChanges(last int) []api.Many {
	put := func(n, a int) api.Many { return api.Many{Row: spareRow(a), N: n} }
	return spare(put(8, 8), put(2, 1), put(-3, 2), put(last, 3))
}

// roomOf is all that l and ch have, their spare room too.
func roomOf(l api.Log, ch []api.Many) []any {
	all := []any{l.From, len(l.List), cap(l.List), len(ch), cap(ch)}
	for _, e := range l.List[:cap(l.List)] {
		all = append(all, e.Scn, e.N, len(e.Row), e.Row[:cap(e.Row)])
	}
	for _, m := range ch[:cap(ch)] {
		all = append(all, m.N, len(m.Row), m.Row[:cap(m.Row)])
	}
	return all
}

// asked is each call with l and ch, and their answers.
func asked(l api.Log, ch []api.Many) ([]api.Log, [][]api.Many) {
	var logs []api.Log
	var told [][]api.Many
	for _, scn := range []int{2, 3, 4, 5, 7, 9} {
		added, _ := Add(l, scn, ch)
		more, _ := Add(l, scn, nil)
		logs = append(logs, added, more, Purge(l, scn))
		since, _ := Since(l, scn)
		told = append(told, since)
	}
	Right(l)
	return logs, told
}

// cells are pointers to all places of memory of the lists of l.
func cells(l api.Log) []any {
	var all []any
	for i := range l.List[:cap(l.List)] {
		all = append(all, &l.List[:cap(l.List)][i])
		all = append(all, values(l.List[:cap(l.List)][i].Row)...)
	}
	return all
}

// cellsOf are pointers to all places of memory of the lists of ch.
func cellsOf(ch []api.Many) []any {
	var all []any
	for i := range ch[:cap(ch)] {
		all = append(all, &ch[:cap(ch)][i])
		all = append(all, values(ch[:cap(ch)][i].Row)...)
	}
	return all
}

func values(row []api.Value) []any {
	var all []any
	for i := range row[:cap(row)] {
		all = append(all, &row[:cap(row)][i])
	}
	return all
}

// sets are a log that may be with a bag, and others: one that may not be, changes that are no bag, and too many.
func sets() [][2]int { return [][2]int{{1, 1}, {0, 1}, {1, 0}, {1, most}} }

// TestNothingIsChanged holds rule 3: what is handed in stays as it was, its spare room too.
func TestNothingIsChanged(t *testing.T) {
	for _, s := range sets() {
		l, ch := madeLog(s[0]), madeChanges(s[1])
		asked(l, ch)
		if !reflect.DeepEqual(roomOf(l, ch), roomOf(madeLog(s[0]), madeChanges(s[1]))) {
			t.Errorf("%v: %+v and %+v have changed", s, l, ch)
		}
	}
	times := spare(1, 5, 4, 6)
	if low := Low(times, 9); low != 4 || !slices.Equal(times[:4], []int{5, 4, 6, 1}) {
		t.Errorf("%d of %v", low, times[:4])
	}
}

// TestNewMemory holds rule 3 and the chapter's Ways: each answer has its entries and rows in memory of its own, beside an
// error too, and where nothing has changed.
func TestNewMemory(t *testing.T) {
	for _, s := range sets() {
		l, ch := madeLog(s[0]), madeChanges(s[1])
		seen := map[any]bool{}
		once := func(what string, cells []any) {
			for _, c := range cells {
				if seen[c] {
					t.Fatalf("%v: %s shares memory", s, what)
				}
				seen[c] = true
			}
		}
		once("the log", cells(l))
		once("the changes", cellsOf(ch))
		logs, told := asked(l, ch)
		for _, got := range logs {
			once("a log that is answered", cells(got))
		}
		for _, got := range told {
			once("a bag that is answered", cellsOf(got))
		}
	}
}

// TestGoesItsOwnWay holds the chapter's Ways: two logs that were made of one go on without each other.
func TestGoesItsOwnWay(t *testing.T) {
	l, _ := Add(New(0), 1, changes(put(1, 1), put(1, 2), put(1, 3)))
	a, _ := Add(l, 2, changes(put(1, 7)))
	b, _ := Add(l, 2, changes(put(-1, 8), put(2, 9)))
	p := Purge(a, 1)
	c, _ := Add(p, 3, changes(put(1, 5)))
	first := []api.Entry{at(1, 1, 1), at(1, 1, 2), at(1, 1, 3)}
	for _, held := range []struct{ got, want api.Log }{
		{l, logOf(0, first...)},
		{a, logOf(0, append(slices.Clone(first), at(2, 1, 7))...)},
		{b, logOf(0, append(slices.Clone(first), at(2, -1, 8), at(2, 1, 9), at(2, 1, 9))...)},
		{p, logOf(0, at(2, 1, 7))},
		{c, logOf(0, at(2, 1, 7), at(3, 1, 5))},
	} {
		if !sameLog(held.got, held.want) {
			t.Errorf("%+v, want %+v", held.got, held.want)
		}
	}
}

// TestAgain holds rule 4: the same call answers the same again, whatever was called between.
func TestAgain(t *testing.T) {
	for range 20 {
		for _, s := range sets() {
			l, ch := madeLog(s[0]), madeChanges(s[1])
			logs, told := asked(l, ch)
			asked(logs[1], madeChanges(2))
			again, toldAgain := asked(l, ch)
			if !slices.EqualFunc(logs, again, sameLog) || !slices.EqualFunc(told, toldAgain, sameBag) {
				t.Fatalf("%v: %+v, %+v, and then %+v, %+v", s, logs, told, again, toldAgain)
			}
		}
	}
}
