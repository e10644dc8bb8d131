package print

import (
	"math/rand"
	"strconv"
	"strings"

	"belvedere/api"
)

// opposite stands for the - of an opposite, behind which no blank stands.
const opposite = "~"

// model writes statements word by word, with brackets by how closely things hold together. Where r is there, it writes
// them loosely: with brackets that need not be, and without those that no reader needs.
type model struct {
	words []string
	r     *rand.Rand
}

func (m *model) put(l ...string) { m.words = append(m.words, l...) }

func (m *model) loosely() bool { return m.r != nil && m.r.Intn(6) == 0 }

// with puts what one puts, in brackets if they must be.
func (m *model) with(brackets bool, one func()) {
	if !brackets && !m.loosely() {
		one()
		return
	}
	m.put("(")
	m.with(false, one)
	m.put(")")
}

func commas[T any](m *model, l []T, one func(T)) {
	for i, x := range l {
		if i > 0 {
			m.put(",")
		}
		one(x)
	}
}

func (m *model) value(v api.Value) {
	switch {
	case v.Kind == api.TInt:
		s := strconv.FormatInt(int64(v.N), 10)
		if s[0] == '-' && m.loosely() {
			m.put("-")
			s = s[1:]
		}
		m.put(s)
	case v.Kind == api.TBool && v.N == 1:
		m.put("true")
	case v.Kind == api.TBool:
		m.put("false")
	case v.Kind == api.TText:
		m.put("'" + strings.Join(strings.Split(v.S, "'"), "''") + "'")
	default:
		m.put("null")
	}
}

// close tells how closely an expression holds together: sums 1, products 2, all else 3.
func close(e api.Expr) int {
	switch e.Kind {
	case api.EAdd, api.ESub:
		return 1
	case api.EMul:
		return 2
	}
	return 3
}

// expr writes e where only what holds together at least so closely may stand without brackets.
func (m *model) expr(e api.Expr, least int) {
	m.with(close(e) < least, func() {
		l := append(append([]api.Expr(nil), e.Args...), api.Expr{}, api.Expr{})
		switch e.Kind {
		case api.EAdd, api.ESub, api.EMul:
			m.expr(l[0], close(e))
			m.put([]string{"+", "-", "*"}[e.Kind-api.EAdd])
			m.expr(l[1], close(e)+1)
		case api.ENeg:
			m.opposite(l[0])
		default:
			m.operand(e)
		}
	})
}

func (m *model) opposite(e api.Expr) {
	m.put(opposite)
	begins := e.Kind == api.ENeg || e.Kind != api.EColumn && close(e) == 3 && (e.Val.Kind != api.TInt || e.Val.N < 0)
	if e.Kind == api.EColumn || begins && m.loosely() {
		m.expr(e, 0)
		return
	}
	m.with(true, func() { m.expr(e, 0) })
}

func (m *model) operand(e api.Expr) {
	switch {
	case e.Kind != api.EColumn:
		m.value(e.Val)
	case e.Table == "":
		m.put(e.Name)
	default:
		m.put(e.Table, ".", e.Name)
	}
}

// bare writes an expression where a reader takes no brackets, but for those that a made one needs.
func (m *model) bare(e api.Expr) {
	if e.Kind < api.EAdd || e.Kind > api.ENeg {
		m.operand(e)
		return
	}
	m.expr(e, 0)
}

func closed(c api.Cond) int {
	switch c.Kind {
	case api.COr:
		return 1
	case api.CAnd:
		return 2
	}
	return 3
}

func (m *model) cond(c api.Cond, least int) {
	m.with(closed(c) < least, func() {
		switch c.Kind {
		case api.CNull, api.CSome:
			m.bare(c.L)
			m.put([][]string{{"is", "null"}, {"is", "not", "null"}}[c.Kind-api.CNull]...)
		case api.CAnd, api.COr:
			for i, a := range c.Args {
				if i > 0 {
					m.put([]string{"or", "and"}[closed(c)-1])
				}
				m.cond(a, closed(c)+1)
			}
		case api.CNot:
			m.put("not")
			m.cond(append(append([]api.Cond(nil), c.Args...), api.Cond{})[0], 3)
		default:
			m.bare(c.L)
			m.put(pick(c.Op-1, "=", strings.Fields("= <> < <= > >=")...))
			m.bare(c.R)
		}
	})
}

// pick is the number i of l, or none.
func pick(i int, none string, l ...string) string {
	if i < 0 || i >= len(l) {
		return none
	}
	return l[i]
}

func (m *model) where(c api.Cond) {
	if c.Kind != api.CNone {
		m.put("where")
		m.cond(c, 0)
	}
}

func (m *model) as(s string) {
	m.put("as", s)
}

func (m *model) item(i api.Item) {
	switch i.Agg {
	case api.ANone:
		m.expr(i.E, 0)
	case api.ACount:
		m.put("count", "(", "*", ")")
	default:
		m.put(pick(i.Agg-2, "count", "count", "sum", "min", "max"), "(")
		m.expr(i.E, 0)
		m.put(")")
	}
	if i.As != "" {
		m.as(i.As)
	}
}

func (m *model) source(s api.Source) {
	m.put(s.Name)
	if s.As != s.Name || m.loosely() {
		m.as(s.As)
	}
}

func (m *model) query(q api.Query) {
	for i, s := range q.Parts {
		if i > 0 {
			m.put("union", "all")
		}
		m.put("select")
		if s.Distinct {
			m.put("distinct")
		}
		commas(m, s.Items, m.item)
		m.put("from")
		commas(m, s.From, m.source)
		m.where(s.Where)
		if len(s.Group) > 0 {
			m.put("group", "by")
			commas(m, s.Group, m.bare)
		}
	}
}

func (m *model) table(s api.Stmt) {
	m.put("create", "table", s.Name, "(")
	commas(m, s.Cols, func(c api.Column) {
		m.put(c.Name, pick(c.Type-1, "int", "int", "bool", "text"))
		if c.Must {
			m.put("not", "null")
		}
	})
	if len(s.Keys) > 0 {
		m.put(",", "primary", "key", "(")
		commas(m, s.Keys, func(k string) { m.put(k) })
		m.put(")")
	}
	m.put(")")
}

func (m *model) mode(n int) {
	if n > 0 && n < 4 {
		m.put(pick(n-1, "", "fast", "complete", "force"))
	}
}

func (m *model) stmt(s api.Stmt) {
	on := s.N
	if on != 1 {
		on = 0
	}
	heads := map[int]string{
		api.SDropTable: "drop table", api.SLog: "create log on", api.SDropLog: "drop log on", api.SView: "create view", api.SDropView: "drop view", api.SInsert: "insert into",
		api.SDelete: "delete from", api.SUpdate: "update", api.SRefresh: "refresh", api.SRefreshAll: "refresh", api.SPurge: "purge log on", api.SShow: "show",
	}
	if head, ok := heads[s.Kind]; ok {
		m.put(strings.Fields(head)...)
		m.put(s.Name)
	}
	switch s.Kind {
	case api.STable:
		m.table(s)
	case api.SRewrite:
		m.put("set", "rewrite", []string{"off", "on"}[on])
	case api.SPolicy:
		m.put("set", "policy", []string{"enforced", "tolerated"}[on])
	case api.SView:
		m.put("refresh")
		m.mode(s.Mode)
		m.put("as")
		m.query(s.Query)
	case api.SInsert:
		m.put("values")
		commas(m, s.Rows, func(l []api.Value) {
			m.put("(")
			commas(m, l, m.value)
			m.put(")")
		})
	case api.SUpdate:
		m.put("set")
		commas(m, s.Sets, func(x api.Set) {
			m.put(x.Name, "=")
			m.expr(x.E, 0)
		})
		m.where(s.Where)
	case api.SDelete:
		m.where(s.Where)
	case api.SRefresh, api.SRefreshAll:
		m.mode(s.Mode)
		if s.Kind == api.SRefreshAll {
			m.put("nested")
		}
	default:
		if _, ok := heads[s.Kind]; !ok {
			m.query(s.Query)
		}
	}
}

// text is the words with blanks between, but where the chapter sets none; or loosely, any number of them where words don't run together.
func (m *model) text() string {
	var b strings.Builder
	for i, w := range m.words {
		if i > 0 {
			b.WriteString(strings.Repeat(" ", m.blanks(m.words[i-1], w)))
		}
		b.WriteString(strings.ReplaceAll(w[:1], opposite, "-") + w[1:])
	}
	return b.String()
}

func (m *model) blanks(a, b string) int {
	if m.r != nil {
		return m.anyBlanks(a, b)
	}
	switch b {
	case ")", ",", ".":
		return 0
	case "(":
		if a == "count" || a == "sum" || a == "min" || a == "max" {
			return 0
		}
	}
	if a == "(" || a == "." || a == opposite {
		return 0
	}
	return 1
}

func (m *model) anyBlanks(a, b string) int {
	const letters = "abcdefghijklmnopqrstuvwxyz_0123456789"
	count := m.r.Intn(3) & m.r.Intn(3)
	if strings.Contains(letters, a[len(a)-1:]) && strings.Contains(letters, b[:1]) {
		return count + 1
	}
	return count
}

// written is what write writes, as the chapter has it.
func written(write func(m *model)) string {
	var m model
	write(&m)
	return m.text()
}
