package trace

import (
	"fmt"
	"math/rand"
	"slices"
	"testing"

	"belvedere/api"
	"belvedere/bag"
	"belvedere/value"
)

// mayBe tells what Right tells by the chapter's words, each two entries held against each other.
func mayBe(l api.Log) bool {
	for i, e := range l.List {
		for _, earlier := range l.List[:i] {
			if earlier.Scn > e.Scn {
				return false
			}
		}
		if l.From >= e.Scn || !slices.Contains([]int{1, -1}, e.N) {
			return false
		}
	}
	return l.From >= 0
}

// summed tells what Since tells, of any log, by the words of chapters 16 and 4.
func summed(l api.Log, scn int) []api.Many {
	sums, rows := map[string]int{}, map[string][]api.Value{}
	for _, e := range l.List {
		if e.Scn > scn {
			name := fmt.Sprintf("%#v", append([]api.Value{}, e.Row...))
			sums[name], rows[name] = sums[name]+e.N, e.Row
		}
	}
	var got []api.Many
	for name, n := range sums {
		if n != 0 {
			got = append(got, many(n, rows[name]...))
		}
	}
	slices.SortFunc(got, func(a, b api.Many) int { return value.Rows(a.Row, b.Row) })
	return got
}

// maker makes logs and changes.
type maker struct{ r *rand.Rand }

// rarely is true once in n times.
func (m maker) rarely(n int) bool { return m.r.Intn(n) == 0 }

func (m maker) row() []api.Value {
	rows := [][]api.Value{nil, {}, {nothing}, {num(1)}, {num(1), nothing}, {num(2)}, {text("")}, {text("a")}, {text("a"), num(1)}}
	return rows[m.r.Intn(len(rows))]
}

// time is one that is likely to be near the others, or an end.
func (m maker) time() int {
	if m.rarely(12) {
		return []int{least, least + 1, -1, greatest - 1, greatest}[m.r.Intn(5)]
	}
	return m.r.Intn(12)
}

// log is any log, many of which may be.
func (m maker) log() api.Log {
	l := logOf(m.r.Intn(4))
	if m.rarely(8) {
		l.From = m.time()
	}
	scn := l.From
	for range m.r.Intn(8) {
		if scn < greatest-3 {
			scn += m.r.Intn(3)
		}
		e := api.Entry{Scn: scn, N: 1 - 2*m.r.Intn(2), Row: m.row()}
		if len(l.List) == 0 && scn < greatest && !m.rarely(6) {
			scn++
			e.Scn = scn
		}
		if m.rarely(25) {
			e.Scn = m.time()
		}
		if m.rarely(40) {
			e.N = m.time()
		}
		l.List = append(l.List, e)
	}
	return l
}

// changes are any list, most of which are bags.
func (m maker) changes() []api.Many {
	var ch []api.Many
	for range m.r.Intn(5) {
		n := m.r.Intn(7) - 3
		if m.rarely(30) {
			n = []int{least, -api.MaxMany, -most - 1, -most, most, most + 1, api.MaxMany, greatest}[m.r.Intn(8)]
		}
		ch = append(ch, many(n, m.row()...))
	}
	if !m.rarely(6) {
		ch = slices.DeleteFunc(ch, func(c api.Many) bool { return c.N == 0 })
		slices.SortFunc(ch, func(a, b api.Many) int { return value.Rows(a.Row, b.Row) })
		ch = slices.CompactFunc(ch, func(a, b api.Many) bool { return value.Rows(a.Row, b.Row) == 0 })
	}
	return ch
}

// wanted tells what Add tells by the chapter's words.
func wanted(l api.Log, scn int, ch []api.Many) (api.Log, api.Errno) {
	ahead := func(e api.Entry) bool { return e.Scn >= scn }
	if !mayBe(l) || !bag.Right(ch) || scn <= l.From || slices.ContainsFunc(l.List, ahead) {
		return l, api.ErrArg
	}
	next := logOf(l.From, slices.Clone(l.List)...)
	for _, c := range ch {
		for n := c.N; n != 0 && len(next.List) <= len(l.List)+most; {
			e := api.Entry{Scn: scn, N: 1, Row: c.Row}
			if n < 0 {
				e.N = -1
			}
			n -= e.N
			next.List = append(next.List, e)
		}
	}
	if len(next.List) > len(l.List)+most {
		return l, api.ErrLong
	}
	return next, api.OK
}

// TestManyLogs holds P16.1 and P16.2, of many logs, to the words of the chapter.
func TestManyLogs(t *testing.T) {
	m := maker{rand.New(rand.NewSource(16))}
	counts := map[api.Errno]int{}
	for range 20000 {
		l, scn, ch := m.log(), m.time(), m.changes()
		if got := Right(l); got != mayBe(l) {
			t.Fatalf("Right(%+v) = %t", l, got)
		}
		want, wantErr := wanted(l, scn, ch)
		got, err := Add(l, scn, ch)
		if err != wantErr || !sameLog(got, want) {
			t.Fatalf("Add(%+v, %d, %+v) = %d entries, %d, want %d, %d", l, scn, ch, len(got.List), err, len(want.List), wantErr)
		}
		counts[err]++
		if mayBe(l) && l.From <= scn {
			since(t, l, scn, summed(l, scn)...)
		} else {
			tooFar(t, l, scn)
		}
		var stay []api.Entry
		for _, e := range l.List {
			if e.Scn > scn {
				stay = append(stay, e)
			}
		}
		purged(t, l, scn, stay...)
		if t.Failed() {
			return
		}
	}
	if counts[api.OK] < 2000 || counts[api.ErrArg] < 2000 || counts[api.ErrLong] < 100 {
		t.Errorf("too few of a kind: %v", counts)
	}
}

// TestManyLows holds P16.2: Low of many times is one of them, and none is less.
func TestManyLows(t *testing.T) {
	m := maker{rand.New(rand.NewSource(17))}
	for range 5000 {
		var l []int
		for range m.r.Intn(6) {
			l = append(l, m.time())
		}
		now := m.time()
		all := append(slices.Clone(l), now)
		got := Low(l, now)
		if !slices.Contains(all, got) || slices.ContainsFunc(all, func(scn int) bool { return scn < got }) {
			t.Fatalf("Low(%v, %d) = %d", l, now, got)
		}
	}
}

// kept is a table as it was at each time, with its log; nothing of the log behind low was purged.
type kept struct {
	was map[int][]api.Many
	now int
	low int
	log api.Log
}

// change brings the table to rows, at the next time or somewhat later.
func (k *kept) change(t *testing.T, m maker, rows []api.Many) {
	t.Helper()
	last := k.was[k.now]
	next := k.now + 1 + m.r.Intn(3)
	for k.now < next-1 {
		k.now++
		k.was[k.now] = last
	}
	k.now = next
	k.was[k.now] = rows
	ch := bag.Less(rows, last)
	l, err := Add(k.log, k.now, ch)
	if err != api.OK {
		t.Fatalf("Add(%+v, %d, %+v) answers %d", k.log, k.now, ch, err)
	}
	k.log = l
}

// check holds P16.3: of each time, up to which nothing was purged, to that time's rows.
func (k *kept) check(t *testing.T) {
	t.Helper()
	for scn := range k.now + 3 {
		ch, ok := Since(k.log, scn)
		if ok != (scn >= k.log.From) {
			t.Fatalf("Since(%+v, %d) tells %t", k.log, scn, ok)
		}
		if scn < max(k.log.From, k.low) {
			continue
		}
		then := k.was[min(scn, k.now)]
		if got := bag.Add(then, ch); !sameBag(got, k.was[k.now]) {
			t.Fatalf("the rows at %d, %+v, come by %+v to %+v, want %+v; %+v", scn, then, ch, got, k.was[k.now], k.log)
		}
	}
}

// TestRowsThenAndNow holds P16.3: changes one behind the other, with purges between.
func TestRowsThenAndNow(t *testing.T) {
	m := maker{rand.New(rand.NewSource(18))}
	for range 100 {
		k := &kept{was: map[int][]api.Many{}}
		k.now = m.r.Intn(5)
		k.log, k.low = New(k.now), k.now
		k.was[k.now] = bag.Of(m.plain())
		for range 25 {
			switch m.r.Intn(6) {
			case 0:
				low := m.r.Intn(k.now + 2)
				k.log, k.low = Purge(k.log, low), max(k.low, low)
			case 1:
				k.change(t, m, k.was[k.now])
			default:
				k.change(t, m, bag.Of(m.plain()))
			}
			k.check(t)
		}
	}
}

// plain is a list of rows that are there.
func (m maker) plain() []api.Many {
	var l []api.Many
	for range m.r.Intn(6) {
		l = append(l, many(1+m.r.Intn(4), m.row()...))
	}
	return l
}

// TestViews holds P16.2 and P16.3: a log is purged up to the least time of those that read it. Each is brought up to
// date by what came and went behind its own time; when all are, a purge leaves nothing.
func TestViews(t *testing.T) {
	m := maker{rand.New(rand.NewSource(19))}
	for range 100 {
		l, now, rows := New(3), 3, []api.Many{}
		times, views := []int{3, 3, 3}, make([][]api.Many, 3)
		refresh := func(i int) {
			ch, ok := Since(l, times[i])
			if !ok {
				t.Fatalf("nothing is told behind %d", times[i])
			}
			views[i], times[i] = bag.Add(views[i], ch), now
			if !sameBag(views[i], rows) {
				t.Fatalf("a view has %+v, want %+v", views[i], rows)
			}
		}
		for range 30 {
			next := bag.Of(m.plain())
			now++
			var err api.Errno
			if l, err = Add(l, now, bag.Less(next, rows)); err != api.OK {
				t.Fatalf("Add answers %d", err)
			}
			rows = next
			if m.rarely(2) {
				refresh(m.r.Intn(3))
			}
			low := Low(times, now)
			if l = Purge(l, low); len(l.List) > 0 && l.List[0].Scn <= low {
				t.Fatalf("%+v was purged up to %d", l, low)
			}
		}
		for i := range views {
			refresh(i)
		}
		if l = Purge(l, Low(times, now)); len(l.List) > 0 || l.From != 3 {
			t.Fatalf("a purge leaves %+v", l)
		}
	}
}
