package table

import (
	"slices"

	"belvedere/api"
	"belvedere/lex"
	"belvedere/value"
)

// Check tells whether s may be, or the first fault of it.
func Check(s api.Schema) api.Errno {
	if !lex.Name(s.Name) {
		return api.ErrArg
	}
	if len(s.Cols) < 1 || len(s.Cols) > api.MaxCols || len(s.Key) > api.MaxCols {
		return api.ErrLong
	}
	for i := range s.Cols {
		if err := checkColumn(s.Cols, i); err != api.OK {
			return err
		}
	}
	for i, at := range s.Key {
		if at < 0 || at >= len(s.Cols) {
			return api.ErrArg
		}
		if slices.Contains(s.Key[:i], at) {
			return api.ErrTwice
		}
	}
	return api.OK
}

func checkColumn(cols []api.Column, i int) api.Errno {
	c := cols[i]
	if !lex.Name(c.Name) {
		return api.ErrArg
	}
	if c.Type < api.TInt || c.Type > api.TText {
		return api.ErrType
	}
	if slices.ContainsFunc(cols[:i], func(o api.Column) bool { return o.Name == c.Name }) {
		return api.ErrTwice
	}
	return api.OK
}

// checkRow tells whether a table that is like s may have row, or the first fault of it.
func checkRow(s api.Schema, row []api.Value) api.Errno {
	if len(row) != len(s.Cols) {
		return api.ErrType
	}
	for i, v := range row {
		if err := value.Check(v); err != api.OK {
			return err
		}
		if v.Kind != api.TAny && v.Kind != s.Cols[i].Type {
			return api.ErrType
		}
	}
	for i, v := range row {
		if v.Kind == api.TAny && (s.Cols[i].Must || slices.Contains(s.Key, i)) {
			return api.ErrNull
		}
	}
	return api.OK
}
