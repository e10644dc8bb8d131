package expr

import (
	"belvedere/api"
	"belvedere/truth"
)

// Holds answers how c stands over row.
func Holds(c api.Test, row []api.Value) int {
	switch c.Kind {
	case api.CNone:
		return api.True
	case api.CCompare:
		return truth.Compare(c.Op, side(c.L, row), side(c.R, row))
	case api.CNull:
		return empty(c.L, row)
	case api.CSome:
		return truth.Not(empty(c.L, row))
	case api.CAnd:
		return truth.And(stand(c.Args, row))
	case api.COr:
		return truth.Or(stand(c.Args, row))
	case api.CNot:
		if len(c.Args) == 1 {
			return truth.Not(Holds(c.Args[0], row))
		}
	}
	return api.Unknown
}

// side answers nothing, too, where there is no value: a condition has no errors. That is the zero value, which Eval
// answers beside an error.
func side(e api.Calc, row []api.Value) api.Value {
	if e.Kind != api.EColumn && e.Kind != api.EValue {
		return api.Value{}
	}
	v, _ := Eval(e, row)
	return v
}

func empty(e api.Calc, row []api.Value) int {
	if side(e, row).Kind == api.TAny {
		return api.True
	}
	return api.False
}

func stand(l []api.Test, row []api.Value) []int {
	return each(l, func(c api.Test) int { return Holds(c, row) })
}

// Asks answers the places of all columns in c, rising, each once.
func Asks(c api.Test) []int { return rising(asked(nil, c)) }

func asked(found []int, c api.Test) []int {
	found = read(read(found, c.L), c.R)
	for _, a := range c.Args {
		found = asked(found, a)
	}
	return found
}

// Both answers the conditions that hold together just where c does, those that and joins apart.
func Both(c api.Test) []api.Test { return apart(nil, c) }

func apart(found []api.Test, c api.Test) []api.Test {
	switch c.Kind {
	case api.CNone:
		return found
	case api.CAnd:
		for _, a := range c.Args {
			found = apart(found, a)
		}
		return found
	}
	return append(found, ownTest(c))
}

// ownTest answers c in new memory.
func ownTest(c api.Test) api.Test {
	c.L, c.R = ownCalc(c.L), ownCalc(c.R)
	c.Args = each(c.Args, ownTest)
	return c
}
