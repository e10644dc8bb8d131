package plan

import (
	"math/bits"
	"slices"

	"belvedere/api"
	"belvedere/bag"
	"belvedere/expr"
)

// source is what a name has, and how many rows that is.
type source struct {
	rows []api.Many
	size int
}

type sources map[string]source

// there answers what is there, by names: of several of one name the first.
func there(l []api.Named) sources {
	s := make(sources, len(l))
	for _, n := range l {
		if _, met := s[n.Name]; !met {
			s[n.Name] = source{n.Rows, size(n.Rows)}
		}
	}
	return s
}

// size counts to MaxMany and no further: l may be any list, whose numbers may come past all ends.
func size(l []api.Many) int {
	n := 0
	for _, m := range l {
		n += min(max(m.N, 0), api.MaxMany-n)
	}
	return n
}

func (s sources) cost(p api.Plan) int {
	n := 0
	for _, part := range p.Parts {
		n += min(s.partCost(part), api.MaxMany-n)
	}
	return n
}

// partCost goes on behind a product past MaxMany, since a source without rows still makes it 0.
func (s sources) partCost(p api.Part) int {
	n := 1
	for _, name := range p.From {
		n = times(n, s[name].size)
	}
	return n
}

// times answers the product of two numbers that aren't below 0, MaxMany at most.
func times(a, b int) int {
	high, low := bits.Mul64(uint64(a), uint64(b))
	if high > 0 || low > api.MaxMany {
		return api.MaxMany
	}
	return int(low)
}

func (s sources) ready(p api.Plan) api.Errno {
	if !Right(p) {
		return api.ErrArg
	}
	for _, part := range p.Parts {
		for i, name := range part.From {
			if err := s.fits(name, part.Widths[i]); err != api.OK {
				return err
			}
		}
	}
	return api.OK
}

func (s sources) fits(name string, width int) api.Errno {
	from, met := s[name]
	if !met {
		return api.ErrName
	}
	other := func(m api.Many) bool { return len(m.Row) != width }
	if !bag.Plain(from.rows) || slices.ContainsFunc(from.rows, other) {
		return api.ErrArg
	}
	return api.OK
}

// kept answers those of p's rows for which its condition is True.
func (s sources) kept(p api.Part) []api.Many {
	out := func(m api.Many) bool { return expr.Holds(p.Where, m.Row) != api.True }
	return slices.DeleteFunc(s.sideBySide(p), out)
}

// sideBySide answers p's rows, in new memory.
func (s sources) sideBySide(p api.Part) []api.Many {
	// Where a source has none, the others may have any number of rows: too many to be put side by side for nothing.
	if s.partCost(p) == 0 {
		return nil
	}
	rows := []api.Many{{N: 1}}
	for _, name := range p.From {
		rows = pairs(rows, s[name].rows)
	}
	return rows
}

func pairs(a, b []api.Many) []api.Many {
	l := make([]api.Many, 0, len(a)*len(b))
	for _, x := range a {
		for _, y := range b {
			l = append(l, api.Many{Row: slices.Concat(x.Row, y.Row), N: x.N * y.N})
		}
	}
	return l
}
