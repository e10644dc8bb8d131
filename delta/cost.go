package delta

import (
	"math/bits"
	"slices"

	"belvedere/api"
	"belvedere/value"
)

// size is how many rows a source had, how many come and go of it, and how many it has now: each MaxMany at most.
type size struct{ old, ch, now int }

// sizes answers those of all names that p reads.
func sizes(p api.Plan, old, ch sources) map[string]size {
	l := map[string]size{}
	for _, name := range names(p) {
		s := size{ch: countAll(ch[name])}
		// What wasn't there isn't there now, whatever came to it.
		if rows, met := old[name]; met {
			s.old, s.now = count(rows), countNow(rows, ch[name])
		}
		l[name] = s
	}
	return l
}

// partCost goes from source to source: beside what the net rows of those ahead cost there is all that the next one has
// now, and beside those ahead, as they were, its changes.
func partCost(p api.Part, l map[string]size) int {
	n, ahead := 0, 1
	for _, name := range p.From {
		s := l[name]
		n = plus(times(n, s.now), times(ahead, s.ch))
		ahead = times(ahead, s.old)
	}
	return n
}

// plus and times answer the sum and the product of two numbers that aren't below 0, the first MaxMany at most; both
// answer MaxMany at most.
func plus(a, b int) int { return a + min(b, api.MaxMany-a) }

func times(a, b int) int {
	if a > 0 && b > api.MaxMany/a {
		return api.MaxMany
	}
	return a * b
}

// count counts the rows that are there; l may be any list, whose numbers may come past all ends.
func count(l []api.Many) int {
	n := 0
	for _, m := range l {
		n = plus(n, max(m.N, 0))
	}
	return n
}

// countAll counts the rows that go, too.
func countAll(l []api.Many) int {
	n := 0
	for _, m := range l {
		// The least number has no opposite, but it counts as no more than MaxMany.
		n = plus(n, max(m.N, -max(m.N, -api.MaxMany)))
	}
	return n
}

// countNow counts the rows that are there, once both are put together.
func countNow(old, ch []api.Many) int {
	l := slices.Concat(old, ch)
	slices.SortFunc(l, byRow)
	n := 0
	var often total
	for i, m := range l {
		often = often.plus(m.N)
		if i+1 == len(l) || byRow(m, l[i+1]) != 0 {
			n, often = plus(n, often.narrow()), total{}
		}
	}
	return n
}

func byRow(a, b api.Many) int { return value.Rows(a.Row, b.Row) }

// total is a whole number in two words, one below 0 as 2^128 more: no sum of as many numbers as there may be is past
// its ends.
type total struct{ high, low uint64 }

func (t total) plus(n int) total {
	low, carry := bits.Add64(t.low, uint64(n), 0)
	// The high word of a number is all sign.
	high, _ := bits.Add64(t.high, uint64(n>>63), carry)
	return total{high, low}
}

// narrow answers t, but 0 at least and MaxMany at most.
func (t total) narrow() int {
	switch {
	case t.high>>63 == 1:
		return 0
	case t.high > 0 || t.low > api.MaxMany:
		return api.MaxMany
	}
	return int(t.low)
}
