package parse

import (
	"math"
	"math/rand"
	"strconv"
	"strings"
	"testing"

	"belvedere/api"
)

// maker makes statements and what they are written like: its words, and how deep the deepest place is.
type maker struct {
	r       *rand.Rand
	words   []string
	depth   int
	deepest int
}

func (m *maker) put(l ...string) { m.words = append(m.words, l...) }
func (m *maker) few(n int) bool  { return m.r.Intn(n) == 0 }
func (m *maker) pick(s string) string {
	l := strings.Fields(s)
	return l[m.r.Intn(len(l))]
}

func (m *maker) open(s string) {
	m.put(s)
	m.depth++
	m.deepest = max(m.deepest, m.depth)
}

func (m *maker) shut() {
	m.put(")")
	m.depth--
}

// size is mostly small, at times the most, and seldom more than may be.
func (m *maker) size(most int) int {
	switch m.r.Intn(40) {
	case 0:
		return most + 1
	case 1, 2:
		return most
	}
	return 1 + m.r.Intn(min(3, most))
}

func (m *maker) name() string { return m.pick("a b c t u v _ x1 selects abcdefghijklmnop") }

func (m *maker) wrote(s string) string {
	m.put(s)
	return s
}

func listed[T any](m *maker, n int, one func() T) []T {
	var l []T
	for i := range n {
		if i > 0 {
			m.put(",")
		}
		l = append(l, one())
	}
	return l
}

func (m *maker) value() api.Value {
	switch m.r.Intn(8) {
	case 0:
		m.put("null")
		return nothing()
	case 1:
		m.put("true")
		return truth(1)
	case 2:
		m.put("false")
		return truth(0)
	case 3, 4:
		s := m.pick("x it's '' ( select null - 1") + strings.Repeat("' ", m.r.Intn(4))
		if m.few(60) {
			s = strings.Repeat("'", 64+m.r.Intn(2))
		}
		m.put("'" + strings.ReplaceAll(s, "'", "''") + "'")
		return text(s)
	}
	return m.number()
}

func (m *maker) number() api.Value {
	n := []int{0, 1, 5, 12, math.MaxInt64, math.MinInt64, -1, -5, -math.MaxInt64, m.r.Intn(1000) - 500}[m.r.Intn(10)]
	s := strconv.Itoa(n)
	if n < 0 {
		m.put("-")
		s = s[1:]
	}
	m.put(s)
	return num(n)
}

func (m *maker) column() api.Expr {
	if m.few(3) {
		table := m.wrote(m.name())
		m.put(".")
		return of(table, m.wrote(m.name()))
	}
	return col(m.wrote(m.name()))
}

func (m *maker) operand() api.Expr {
	if m.few(2) {
		return m.column()
	}
	return val(m.value())
}

// expr makes what may stand at a level: 0 all, 1 no sums, 2 no products either; what may not gets brackets, and at times what may too.
func (m *maker) expr(level, size int) api.Expr {
	kind := m.r.Intn(6)
	if size == 0 || kind < 2 {
		return m.bare(level, size)
	}
	need := 0
	switch kind {
	case 2, 3:
		need = level
	case 4:
		need = level - 1
	}
	if need <= 0 && !m.few(8) {
		return m.calc(kind, size)
	}
	m.open("(")
	e := m.calc(kind, size)
	m.shut()
	return e
}

func (m *maker) bare(level, size int) api.Expr {
	if !m.few(8) {
		return m.operand()
	}
	m.open("(")
	e := m.expr(0, size-min(size, 1))
	m.shut()
	return e
}

func (m *maker) calc(kind, size int) api.Expr {
	switch kind {
	case 2, 3:
		l := m.expr(0, size-1)
		m.put([]string{"+", "-"}[kind-2])
		return calc([]int{api.EAdd, api.ESub}[kind-2], l, m.expr(1, size-1))
	case 4:
		l := m.expr(1, size-1)
		m.put("*")
		return calc(api.EMul, l, m.expr(2, size-1))
	}
	return m.opposite(size)
}

// opposite puts brackets around a number that its - would be taken for.
func (m *maker) opposite(size int) api.Expr {
	m.open("-")
	at := len(m.words)
	e := m.expr(2, size-1)
	if c := m.words[at][0]; c >= '0' && c <= '9' {
		m.words = append(m.words[:at:at], append([]string{"("}, m.words[at:]...)...)
		m.deepest = max(m.deepest, m.depth+1)
		m.put(")")
	}
	m.depth--
	return calc(api.ENeg, e)
}

// cond makes what may stand at a level: 0 all, 1 no or, 2 no and either.
func (m *maker) cond(level, size int) api.Cond {
	kind := m.r.Intn(7)
	if size == 0 || kind < 3 {
		kind = 0
	}
	need := kind == 3 && level > 0 || kind == 4 && level > 1
	if !need && !m.few(8) {
		return m.held(kind, size)
	}
	m.open("(")
	c := m.held(kind, size)
	m.shut()
	return c
}

func (m *maker) held(kind, size int) api.Cond {
	switch kind {
	case 3:
		return m.joined(api.COr, "or", 1, size)
	case 4:
		return m.joined(api.CAnd, "and", 2, size)
	case 5, 6:
		m.open("not")
		c := cond(api.CNot, m.cond(2, size-1))
		m.depth--
		return c
	}
	l := m.operand()
	switch m.r.Intn(4) {
	case 0:
		m.put("is", "null")
		return api.Cond{Kind: api.CNull, L: l}
	case 1:
		m.put("is", "not", "null")
		return api.Cond{Kind: api.CSome, L: l}
	}
	op := m.r.Intn(6)
	m.put(strings.Fields("= <> < <= > >=")[op])
	return comp(l, op+1, m.operand())
}

func (m *maker) joined(kind int, between string, level, size int) api.Cond {
	c := api.Cond{Kind: kind}
	for i := range 2 + m.r.Intn(3) {
		if i > 0 {
			m.put(between)
		}
		c.Args = append(c.Args, m.cond(level, size-1))
	}
	return c
}

func (m *maker) where() api.Cond {
	if m.few(2) {
		return api.Cond{}
	}
	m.put("where")
	return m.cond(0, m.r.Intn(5))
}

func (m *maker) item() api.Item {
	var i api.Item
	switch i.Agg = m.r.Intn(10) - 4; i.Agg {
	case api.ACount:
		m.put("count", "(", "*", ")")
	case api.ASome, api.ASum, api.AMin, api.AMax:
		m.put(strings.Fields("count sum min max")[i.Agg-2], "(")
		i.E = m.expr(0, m.r.Intn(3))
		m.put(")")
	default:
		i.Agg = 0
		i.E = m.expr(0, m.r.Intn(4))
	}
	if m.few(3) {
		m.put("as")
		i.As = m.wrote(m.name())
	}
	return i
}

func (m *maker) source() api.Source {
	s := m.wrote(m.name())
	if m.few(2) {
		return api.Source{Name: s, As: s}
	}
	m.put("as")
	return api.Source{Name: s, As: m.wrote(m.name())}
}

func (m *maker) selected() api.Select {
	var s api.Select
	m.put("select")
	if s.Distinct = m.few(3); s.Distinct {
		m.put("distinct")
	}
	s.Items = listed(m, m.size(8), m.item)
	m.put("from")
	s.From = listed(m, m.size(3), m.source)
	s.Where = m.where()
	if m.few(2) {
		m.put("group", "by")
		s.Group = listed(m, m.size(4), m.column)
	}
	return s
}

func (m *maker) query() api.Query {
	var q api.Query
	for i := range max(1, m.size(4)-1+m.r.Intn(2)) {
		if i > 0 {
			m.put("union", "all")
		}
		q.Parts = append(q.Parts, m.selected())
	}
	return q
}

func (m *maker) col() api.Column {
	c := api.Column{Name: m.wrote(m.name()), Type: 1 + m.r.Intn(3), Must: m.few(2)}
	m.put(strings.Fields("int bool text")[c.Type-1])
	if c.Must {
		m.put("not", "null")
	}
	return c
}

func (m *maker) table() api.Stmt {
	s := api.Stmt{Kind: api.STable}
	m.put("create", "table")
	s.Name = m.wrote(m.name())
	m.put("(")
	s.Cols = listed(m, m.size(8), m.col)
	if m.few(2) {
		m.put(",", "primary", "key", "(")
		s.Keys = listed(m, m.size(8), func() string { return m.wrote(m.name()) })
		m.put(")")
	}
	m.put(")")
	return s
}

func (m *maker) tuple() []api.Value {
	m.put("(")
	l := listed(m, m.size(8), m.value)
	m.put(")")
	return l
}

func (m *maker) set() api.Set {
	s := api.Set{Name: m.wrote(m.name())}
	m.put("=")
	s.E = m.expr(0, m.r.Intn(4))
	return s
}

func (m *maker) mode() int {
	n := 1 + m.r.Intn(3)
	m.put(strings.Fields("fast complete force")[n-1])
	return n
}

// named is a statement of words, and a name behind.
func (m *maker) named(kind int, s string) api.Stmt {
	m.put(strings.Fields(s)...)
	return api.Stmt{Kind: kind, Name: m.wrote(m.name())}
}

func (m *maker) stmt() api.Stmt {
	switch m.r.Intn(16) {
	default:
		return api.Stmt{Kind: api.SQuery, Query: m.query()}
	case 1:
		return m.table()
	case 2:
		i := m.r.Intn(3)
		return m.named([]int{api.SDropTable, api.SDropLog, api.SDropView}[i], []string{"drop table", "drop log on", "drop view"}[i])
	case 3:
		return m.named(api.SLog, "create log on")
	case 4:
		s := m.named(api.SView, "create view")
		m.put("refresh")
		s.Mode = m.mode()
		m.put("as")
		s.Query = m.query()
		return s
	case 5, 6:
		s := m.named(api.SInsert, "insert into")
		m.put("values")
		s.Rows = listed(m, m.size(16), m.tuple)
		return s
	case 7:
		s := m.named(api.SDelete, "delete from")
		s.Where = m.where()
		return s
	case 8, 9:
		s := m.named(api.SUpdate, "update")
		m.put("set")
		s.Sets = listed(m, m.size(8), m.set)
		s.Where = m.where()
		return s
	case 10:
		return m.refresh()
	case 11:
		return m.named(api.SPurge, "purge log on")
	case 12:
		return m.named(api.SShow, "show")
	case 13:
		n := m.r.Intn(2)
		m.put("set", "rewrite", []string{"off", "on"}[n])
		return api.Stmt{Kind: api.SRewrite, N: n}
	case 14:
		n := m.r.Intn(2)
		m.put("set", "policy", []string{"enforced", "tolerated"}[n])
		return api.Stmt{Kind: api.SPolicy, N: n}
	}
}

func (m *maker) refresh() api.Stmt {
	s := m.named(api.SRefresh, "refresh")
	if m.few(2) {
		s.Mode = m.mode()
	}
	if m.few(2) {
		m.put("nested")
		s.Kind = api.SRefreshAll
	}
	return s
}

// text is words with blanks between, at least one where they would run together.
func (m *maker) text(words []string) string {
	var b strings.Builder
	for i, w := range words {
		if i > 0 && run(words[i-1], w) {
			b.WriteByte(' ')
		}
		if m.r.Intn(8) > 5 {
			b.WriteString(strings.Repeat(" ", m.r.Intn(3)))
		}
		b.WriteString(w)
	}
	return b.String()
}

func run(a, b string) bool {
	signs := "(),.*+-="
	return !strings.Contains(signs, a[:1]) && !strings.Contains(signs[:len(signs)-1], b[:1])
}

// TestMany holds P9.1 to P9.3 of many statements: each is what it was made from, just at depths that are enough.
func TestMany(t *testing.T) {
	good := 0
	for i := range 20000 {
		m := maker{r: rand.New(rand.NewSource(int64(i)))}
		want := m.stmt()
		s := m.text(m.words)
		if err := wanted(s, math.MaxInt); err != api.OK {
			refused(t, s, math.MaxInt, err)
			continue
		}
		good++
		read(t, s, m.deepest, want)
		if m.deepest == 0 {
			read(t, s, -i, want)
			continue
		}
		for depth := -1; depth < m.deepest; depth++ {
			refused(t, s, depth, api.ErrResource)
		}
	}
	if good < 14000 {
		t.Errorf("only %d statements may be", good)
	}
}

// TestWrong holds P9.1 and P9.2 of statements of which words were left out, put in, put elsewhere, or made others.
func TestWrong(t *testing.T) {
	pool := strings.Fields("create drop table log on off view refresh as insert into values delete from where update set fast nested purge rewrite policy enforced show select distinct group by union all and or not is null true " +
		"count sum int text primary key a b t ( ) ( ) ( ) , , , . * + - - - = <> < <= > >= 1 5 9223372036854775807 9223372036854775808 'x' '(' abcdefghijklmnopq")
	pool = append(pool, "'"+strings.Repeat("y", 64)+"'", "'"+strings.Repeat("y", 65)+"'")
	told := map[api.Errno]int{}
	for i := range 60000 {
		m := maker{r: rand.New(rand.NewSource(int64(i)))}
		m.stmt()
		l := m.words
		for range 1 + m.r.Intn(3) {
			at, to, w := m.r.Intn(len(l)), m.r.Intn(len(l)), pool[m.r.Intn(len(pool))]
			switch m.r.Intn(5) {
			case 0:
				l = append(l[:at:at], l[at+1:]...)
			case 1:
				l = append(l[:at:at], append([]string{w}, l[at:]...)...)
			case 2:
				l[at] = w
			case 3:
				l[at], l[to] = l[to], l[at]
			case 4:
				l = append(l[:at:at], append([]string{l[to]}, l[at:]...)...)
			}
			if len(l) == 0 {
				l = []string{w}
			}
		}
		s := m.text(l)
		for _, depth := range []int{m.r.Intn(8) - 1, math.MaxInt} {
			like(t, s, depth)
			_, err := Parse(s, depth)
			told[err]++
		}
	}
	for _, err := range []api.Errno{api.OK, api.ErrSyntax, api.ErrLong, api.ErrResource} {
		if told[err] < 500 {
			t.Errorf("%d was told only %d times", err, told[err])
		}
	}
}

// TestAny holds P1: any bytes at any depth end, and with one of four errors.
func TestAny(t *testing.T) {
	r := rand.New(rand.NewSource(1))
	for range 20000 {
		b := make([]byte, r.Intn(40))
		r.Read(b)
		s := string(b)
		if r.Intn(2) == 0 {
			s = "select " + strings.Repeat(string("(-n\x00' "[r.Intn(6)]), r.Intn(2100)) + s
		}
		like(t, s, []int{math.MinInt, -1, 0, 1, 64, math.MaxInt}[r.Intn(6)])
	}
}
