// Package value is layer 1: what stands in a column.
package value

import (
	"cmp"
	"slices"
	"strconv"
	"strings"

	"belvedere/api"
)

// Check answers OK of a value that may be, ErrLong of a text that is only too long, ErrArg of all else.
func Check(v api.Value) api.Errno {
	if v.Kind == api.TText && v.N == 0 && len(v.S) > api.MaxText {
		return api.ErrLong
	}
	if !mayBe(v) {
		return api.ErrArg
	}
	return api.OK
}

func mayBe(v api.Value) bool {
	switch v.Kind {
	case api.TAny:
		return v.N == 0 && v.S == ""
	case api.TInt:
		return v.S == ""
	case api.TBool:
		return v.S == "" && (v.N == 0 || v.N == 1)
	case api.TText:
		return v.N == 0 && len(v.S) <= api.MaxText
	}
	return false
}

// Cmp orders any two values: by Kinds, then by N, then by S.
func Cmp(a, b api.Value) int {
	if c := cmp.Compare(a.Kind, b.Kind); c != 0 {
		return c
	}
	if c := cmp.Compare(a.N, b.N); c != 0 {
		return c
	}
	return strings.Compare(a.S, b.S)
}

// Rows orders rows by the first values that differ; a row that begins another one stands ahead of it.
func Rows(a, b []api.Value) int {
	return slices.CompareFunc(a, b, Cmp)
}

// Calc reckons a sum, a difference or a product; where one side is nothing, nothing comes of it.
func Calc(op int, a, b api.Value) (api.Value, api.Errno) {
	if op != api.EAdd && op != api.ESub && op != api.EMul {
		return api.Value{}, api.ErrArg
	}
	if !reckons(a) || !reckons(b) {
		return api.Value{}, api.ErrType
	}
	if a.Kind == api.TAny || b.Kind == api.TAny {
		return api.Value{}, api.OK
	}
	n, ok := reckon(op, a.N, b.N).narrow()
	if !ok {
		return api.Value{}, api.ErrOverflow
	}
	return number(n), api.OK
}

// Neg takes a from 0: the least number has no opposite.
func Neg(a api.Value) (api.Value, api.Errno) {
	return Calc(api.ESub, number(0), a)
}

func number(n int) api.Value { return api.Value{Kind: api.TInt, N: n} }

func reckons(v api.Value) bool { return v.Kind == api.TInt || v.Kind == api.TAny }

func reckon(op, a, b int) wide {
	switch op {
	case api.EAdd:
		return widen(a).plus(widen(b))
	case api.ESub:
		return widen(a).less(widen(b))
	}
	return product(a, b)
}

// Print tells v as a command has it.
func Print(v api.Value) string {
	switch v.Kind {
	case api.TInt:
		return strconv.Itoa(v.N)
	case api.TBool:
		return strconv.FormatBool(v.N == 1)
	case api.TText:
		return "'" + strings.ReplaceAll(v.S, "'", "''") + "'"
	}
	return "null"
}
