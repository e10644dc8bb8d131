package plan

import (
	"slices"

	"belvedere/api"
	"belvedere/expr"
)

// Right tells whether p may be.
func Right(p api.Plan) bool {
	if !within(len(p.Parts), 1, api.MaxParts) {
		return false
	}
	for _, part := range p.Parts {
		if !right(part) || len(part.Outs) != len(p.Parts[0].Outs) {
			return false
		}
	}
	return true
}

// Grouped tells whether p tells of groups of rows, not of rows one by one.
func Grouped(p api.Part) bool {
	return len(p.Group) > 0 || slices.ContainsFunc(p.Outs, aggregates)
}

func aggregates(o api.Out) bool { return o.Agg != api.ANone }

func within(n, least, most int) bool { return n >= least && n <= most }

func right(p api.Part) bool {
	width, ok := across(p)
	return ok && lists(p, width) && (!Grouped(p) || settled(p))
}

// across answers how many columns p's rows have, and whether p's sources may be.
func across(p api.Part) (int, bool) {
	if !within(len(p.From), 1, api.MaxFrom) || len(p.Widths) != len(p.From) {
		return 0, false
	}
	width := 0
	for _, w := range p.Widths {
		if !within(w, 1, api.MaxCols) {
			return 0, false
		}
		width += w
	}
	return width, true
}

// lists tells whether p has neither too few nor too many Outs, nor too great a Group, and reads nothing but the
// columns that its rows have.
func lists(p api.Part, width int) bool {
	if !within(len(p.Outs), 1, api.MaxItems) || len(p.Group) > api.MaxGroup {
		return false
	}
	if !inside(p.Group, width) || !inside(expr.Asks(p.Where), width) {
		return false
	}
	for _, o := range p.Outs {
		if !within(o.Agg, api.ANone, api.ATotal) || !inside(expr.Reads(o.E), width) {
			return false
		}
	}
	return true
}

func inside(places []int, width int) bool {
	for _, at := range places {
		if !within(at, 0, width-1) {
			return false
		}
	}
	return true
}

// settled tells whether each Out without an Agg is the same in all of a group.
func settled(p api.Part) bool {
	for _, o := range p.Outs {
		if !aggregates(o) && (o.E.Kind != api.EColumn || !slices.Contains(p.Group, o.E.At)) {
			return false
		}
	}
	return true
}
