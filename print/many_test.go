package print

import (
	"math"
	"math/rand"
	"reflect"
	"strings"
	"testing"

	"belvedere/api"
	"belvedere/lex"
	"belvedere/parse"
)

// maker makes what is printed: raw, of any kinds and any number of arguments, or else such as is read from a command.
type maker struct {
	r   *rand.Rand
	raw bool
}

// any is a number from least to most, or at times, raw, another one.
func (m *maker) any(least, most int) int {
	if m.raw && m.r.Intn(8) == 0 {
		return []int{math.MinInt, -1, 0, most + 1, most + 2, math.MaxInt}[m.r.Intn(6)]
	}
	return least + m.r.Intn(most-least+1)
}

func (m *maker) some() bool { return m.r.Intn(2) == 0 }

func (m *maker) name() string {
	return strings.Fields("a b c t u v _ x1 selects abcdefghijklmnop")[m.r.Intn(10)]
}

func few[T any](m *maker, least, most int, one func() T) []T {
	var l []T
	for range least + m.r.Intn(most-least+1) {
		l = append(l, one())
	}
	return l
}

func (m *maker) value() api.Value {
	v := api.Value{Kind: m.any(0, 3)}
	switch v.Kind {
	case api.TInt:
		v.N = []int{0, 1, 7, -1, -7, math.MaxInt64, math.MinInt64, m.r.Intn(2000) - 1000}[m.r.Intn(8)]
	case api.TBool:
		v.N = m.r.Intn(2)
	case api.TText:
		v.S = strings.Repeat(strings.Fields("x it's ' '' ( , null -")[m.r.Intn(8)], m.r.Intn(3)) + strings.Repeat(" ", m.r.Intn(2))
	}
	if m.raw && m.r.Intn(8) == 0 {
		v.N, v.S = m.r.Intn(5)-2, "y'"
	}
	return v
}

func (m *maker) column() api.Expr {
	e := col(m.name())
	if m.r.Intn(3) == 0 {
		e.Table = m.name()
	}
	return e
}

func (m *maker) operand() api.Expr {
	if m.raw && m.r.Intn(4) == 0 {
		return m.expr(2)
	}
	if m.some() {
		return m.column()
	}
	return val(m.value())
}

func (m *maker) expr(size int) api.Expr {
	kind := m.any(api.EColumn, api.ENeg)
	switch {
	case kind == api.EColumn || size == 0 && m.some():
		return m.column()
	case kind == api.EValue || size == 0:
		return val(m.value())
	}
	count := 2
	if kind == api.ENeg {
		count = 1
	}
	e := api.Expr{Kind: kind, Args: few(m, count, count, func() api.Expr { return m.expr(size - 1) })}
	if m.raw {
		e.Table, e.Name, e.Val = m.name(), m.name(), m.value()
		e.Args = few(m, 0, 3, func() api.Expr { return m.expr(size - 1) })
	}
	return e
}

func (m *maker) cond(size int) api.Cond {
	c := api.Cond{Kind: m.any(api.CCompare, api.CNot)}
	if size == 0 && (m.raw || c.Kind >= api.CAnd) {
		c.Kind = 1 + m.r.Intn(3)
	}
	if m.raw {
		return m.rawCond(c.Kind, size)
	}
	switch c.Kind {
	case api.CAnd, api.COr:
		c.Args = few(m, 2, 4, func() api.Cond { return m.cond(size - 1) })
	case api.CNot:
		c.Args = few(m, 1, 1, func() api.Cond { return m.cond(size - 1) })
	case api.CCompare:
		c.Op, c.L, c.R = 1+m.r.Intn(6), m.operand(), m.operand()
	default:
		c.L = m.operand()
	}
	return c
}

// rawCond has all fields, whatever the kind; but an and or an or joins at least one, since the chapter doesn't say what
// blanks stand around nothing.
func (m *maker) rawCond(kind, size int) api.Cond {
	c := api.Cond{Kind: kind, Op: m.any(api.OpEq, api.OpGe), L: m.operand(), R: m.operand()}
	least := 0
	if kind == api.CAnd || kind == api.COr {
		least = 1
	}
	if size > 0 {
		c.Args = few(m, least, 3, func() api.Cond { return m.cond(size - 1) })
	}
	return c
}

func (m *maker) where() api.Cond {
	if m.some() {
		return api.Cond{}
	}
	return m.cond(m.r.Intn(4))
}

func (m *maker) item() api.Item {
	var i api.Item
	if m.some() {
		i.Agg = m.any(api.ACount, api.AMax)
	}
	if m.raw || i.Agg != api.ACount {
		i.E = m.expr(m.r.Intn(4))
	}
	if m.some() {
		i.As = m.name()
	}
	return i
}

func (m *maker) source() api.Source {
	s := api.Source{Name: m.name(), As: m.name()}
	if m.some() {
		s.As = s.Name
	}
	return s
}

func (m *maker) selection() api.Select {
	s := api.Select{Distinct: m.some(), Items: few(m, 1, 3, m.item), From: few(m, 1, 3, m.source), Where: m.where(), Group: few(m, 0, 2, m.column)}
	if m.raw {
		s.Group = few(m, 0, 2, m.operand)
	}
	return s
}

func (m *maker) query() api.Query {
	return api.Query{Parts: few(m, 1, 2, m.selection)}
}

func (m *maker) col() api.Column {
	return api.Column{Name: m.name(), Type: m.any(api.TInt, api.TText), Must: m.some()}
}

func (m *maker) tuple() []api.Value { return few(m, 1, 4, m.value) }

func (m *maker) set() api.Set { return api.Set{Name: m.name(), E: m.expr(m.r.Intn(4))} }

func (m *maker) stmt() api.Stmt {
	all := api.Stmt{
		Kind: m.any(api.SQuery, api.SRefreshAll), Name: m.name(), Cols: few(m, 1, 4, m.col), Keys: few(m, 0, 3, m.name), Query: m.query(),
		Mode: m.any(api.MNone, api.MForce), Rows: few(m, 1, 4, m.tuple), Sets: few(m, 1, 3, m.set), Where: m.where(), N: m.r.Intn(2),
	}
	if m.raw {
		return all
	}
	s := api.Stmt{Kind: all.Kind, Name: all.Name}
	switch s.Kind {
	case api.SQuery:
		s.Name, s.Query = "", all.Query
	case api.STable:
		s.Cols, s.Keys = all.Cols, all.Keys
	case api.SView:
		s.Mode, s.Query = max(all.Mode, api.MFast), all.Query
	case api.SInsert:
		s.Rows = all.Rows
	case api.SDelete:
		s.Where = all.Where
	case api.SUpdate:
		s.Sets, s.Where = all.Sets, all.Where
	case api.SRefresh, api.SRefreshAll:
		s.Mode = all.Mode
	case api.SRewrite, api.SPolicy:
		s.Name, s.N = "", all.N
	}
	return s
}

// TestMany holds P10.1 of many statements, and their parts, raw ones and such as are read.
func TestMany(t *testing.T) {
	kinds := map[int]int{}
	for i := range 20000 {
		m := maker{rand.New(rand.NewSource(int64(i))), i%2 == 0}
		e, c, q, s := m.expr(m.r.Intn(5)), m.cond(m.r.Intn(4)), m.query(), m.stmt()
		told(t, Expr, e, written(func(m *model) { m.expr(e, 0) }))
		told(t, Cond, c, written(func(m *model) { m.cond(c, 0) }))
		told(t, Query, q, written(func(m *model) { m.query(q) }))
		told(t, Stmt, s, written(func(m *model) { m.stmt(s) }))
		kinds[s.Kind]++
	}
	for kind := api.SQuery; kind <= api.SRefreshAll; kind++ {
		if kinds[kind] < 500 {
			t.Errorf("only %d statements of the kind %d", kinds[kind], kind)
		}
	}
}

// TestAgain holds P10.2 of many commands, written loosely: they are read, printed, and read again.
func TestAgain(t *testing.T) {
	kinds := map[int]int{}
	for i := range 20000 {
		r := rand.New(rand.NewSource(int64(i)))
		s := (&maker{r, false}).stmt()
		loose := model{r: r}
		loose.stmt(s)
		command := loose.text()
		if _, _, err := lex.Words(command); err == api.ErrLong {
			continue
		}
		if got, err := parse.Parse(command, math.MaxInt); err != api.OK || !reflect.DeepEqual(got, s) {
			t.Errorf("%q is read as %+v, %d, want %+v", command, got, err, s)
			continue
		}
		if got := again(t, command); got != written(func(m *model) { m.stmt(s) }) {
			t.Errorf("%q is printed %q", command, got)
		}
		kinds[s.Kind]++
	}
	for kind := api.SQuery; kind <= api.SRefreshAll; kind++ {
		if kinds[kind] < 500 {
			t.Errorf("only %d commands of the kind %d", kinds[kind], kind)
		}
	}
}
