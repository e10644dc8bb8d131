package exec

import (
	"iter"
	"slices"

	"belvedere/api"
	"belvedere/expr"
)

// source is one of a part's sources, and what is asked as soon as its rows are there.
type source struct {
	begin int // its first column among those of all sources
	rows  []api.Many
	alone []api.Test // conditions that read its columns alone
	ahead []int      // columns of sources ahead; the first must be the same as the first in own, and so on
	own   []int      // columns of its own, counted from its first one
	both  []api.Test // other conditions that read its columns and those ahead
}

// kept tells those of p's rows for which its condition is True.
func kept(p api.Part, l []api.Named) iter.Seq[api.Many] {
	all := sources(p, l)
	// Beside a source without rows the others may have any number of them: too many to go through for nothing.
	if slices.ContainsFunc(all, empty) || !share(all, p.Where) {
		return func(func(api.Many) bool) {}
	}
	rows := single(api.Many{N: 1})
	for i := range all {
		rows = all[i].join(rows)
	}
	return rows
}

func single(m api.Many) iter.Seq[api.Many] {
	return func(yield func(api.Many) bool) { yield(m) }
}

func sources(p api.Part, l []api.Named) []source {
	var all []source
	begin := 0
	for i, name := range p.From {
		all = append(all, source{begin: begin, rows: rowsOf(l, name)})
		begin += p.Widths[i]
	}
	return all
}

func empty(s source) bool { return len(s.rows) == 0 }

// rowsOf answers what name has: of several of one name the first counts.
func rowsOf(l []api.Named, name string) []api.Many {
	for _, n := range l {
		if n.Name == name {
			return n.Rows
		}
	}
	return nil
}

// share hands each of the conditions that make up c to the source with which all that it reads is there. Those that
// read nothing it asks itself, and answers false, if one of them doesn't hold.
func share(all []source, c api.Test) bool {
	for _, one := range expr.Both(c) {
		places := expr.Asks(one)
		if len(places) > 0 {
			all[owner(all, places[len(places)-1])].take(one, places[0])
		} else if expr.Holds(one, nil) != api.True {
			return false
		}
	}
	return true
}

// owner answers the source whose column stands at that place.
func owner(all []source, at int) int {
	i := len(all) - 1
	for all[i].begin > at {
		i--
	}
	return i
}

// take takes a condition that reads columns from first to one of s's own.
func (s *source) take(c api.Test, first int) {
	switch {
	case first >= s.begin:
		s.alone = append(s.alone, c)
	case s.joins(c):
		s.ahead = append(s.ahead, min(c.L.At, c.R.At))
		s.own = append(s.own, max(c.L.At, c.R.At)-s.begin)
	default:
		s.both = append(s.both, c)
	}
}

// joins tells whether c is that one of s's columns is the same as one ahead, and a key has room for one more.
func (s *source) joins(c api.Test) bool {
	if c.Kind != api.CCompare || c.Op != api.OpEq || c.L.Kind != api.EColumn || c.R.Kind != api.EColumn {
		return false
	}
	return min(c.L.At, c.R.At) < s.begin && max(c.L.At, c.R.At) >= s.begin && len(s.own) < api.MaxCols
}

// join tells the rows ahead with those of s beside them.
func (s *source) join(ahead iter.Seq[api.Many]) iter.Seq[api.Many] {
	partners := s.partners()
	return func(yield func(api.Many) bool) {
		for a := range ahead {
			for _, b := range partners(a.Row) {
				row := slices.Concat(a.Row, b.Row)
				if hold(s.both, row) && !yield(api.Many{Row: row, N: a.N * b.N}) {
					return
				}
			}
		}
	}
}

// partners answers what tells of a row ahead which of s's rows are the same in the columns that must be.
func (s *source) partners() func([]api.Value) []api.Many {
	rows := s.chosen()
	if len(s.own) == 0 {
		return func([]api.Value) []api.Many { return rows }
	}
	byKey := map[key][]api.Many{}
	for _, m := range rows {
		// Nothing isn't the same as anything, nothing neither: so a row that lacks a value there has no partners.
		if !lacks(m.Row, s.own) {
			k := keyOf(m.Row, s.own)
			byKey[k] = append(byKey[k], m)
		}
	}
	return func(row []api.Value) []api.Many { return byKey[keyOf(row, s.ahead)] }
}

// chosen answers those of s's rows for which the conditions hold that read them alone.
func (s *source) chosen() []api.Many {
	if len(s.alone) == 0 {
		return s.rows
	}
	// Conditions tell columns by their places among those of all sources; what stands ahead they don't read.
	ahead := make([]api.Value, s.begin)
	var rows []api.Many
	for _, m := range s.rows {
		if hold(s.alone, slices.Concat(ahead, m.Row)) {
			rows = append(rows, m)
		}
	}
	return rows
}

func hold(l []api.Test, row []api.Value) bool {
	for _, c := range l {
		if expr.Holds(c, row) != api.True {
			return false
		}
	}
	return true
}

// key is a row's values at some places, by which rows are found.
type key [api.MaxCols]api.Value

func keyOf(row []api.Value, places []int) key {
	var k key
	for i, at := range places {
		k[i] = row[at]
	}
	return k
}

// lacks tells whether nothing stands at one of the places.
func lacks(row []api.Value, places []int) bool {
	return slices.ContainsFunc(places, func(at int) bool { return row[at].Kind == api.TAny })
}
