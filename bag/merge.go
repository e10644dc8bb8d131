package bag

import (
	"slices"

	"belvedere/api"
	"belvedere/value"
)

// sum tells what Of tells, but its memory may still be l's: only own makes an answer of it.
func sum(l []api.Many) []api.Many {
	if len(l) > 1 {
		half := len(l) / 2
		return merge(sum(l[:half]), sum(l[half:]))
	}
	if len(l) == 1 && l[0].N == 0 {
		return nil
	}
	return l
}

// merge puts a and b, whose rows rise, together into a list of its own, with rows of theirs.
func merge(a, b []api.Many) []api.Many {
	l := make([]api.Many, 0, len(a)+len(b))
	for len(a) > 0 && len(b) > 0 {
		order := value.Rows(a[0].Row, b[0].Row)
		switch {
		case order < 0:
			l, a = append(l, a[0]), a[1:]
		case order > 0:
			l, b = append(l, b[0]), b[1:]
		default:
			if n := a[0].N + b[0].N; n != 0 {
				l = append(l, api.Many{Row: a[0].Row, N: n})
			}
			a, b = a[1:], b[1:]
		}
	}
	return append(append(l, a...), b...)
}

// own answers l in new memory, with the rows too.
func own(l []api.Many) []api.Many {
	owned := make([]api.Many, 0, len(l))
	for _, m := range l {
		owned = append(owned, api.Many{Row: slices.Clone(m.Row), N: m.N})
	}
	return owned
}
