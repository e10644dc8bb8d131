package bind

import (
	"math"
	"math/rand"
	"reflect"
	"slices"
	"strings"
	"testing"

	"belvedere/api"
	"belvedere/bag"
	"belvedere/exec"
	"belvedere/expr"
	"belvedere/plan"
)

// maker makes schemas, what is asked of them, and rows of them. Of odd things it makes one in a while: no faults at all,
// if odd is 0.
type maker struct {
	r       *rand.Rand
	odd     int
	schemas []api.Schema
	from    []api.Source
	fields  row
}

func (m *maker) strange() bool { return m.odd > 0 && m.r.Intn(m.odd) == 0 }

func pick[T any](m *maker, l ...T) T { return l[m.r.Intn(len(l))] }

// size is mostly small, at times the most, and, if it is strange, none or more than may be.
func (m *maker) size(least, most int) int {
	switch {
	case m.strange():
		return pick(m, 0, most+1)
	case m.r.Intn(10) == 0:
		return most
	}
	return least + m.r.Intn(min(3, most-least+1))
}

// all makes some schemas; of one in a while there are two, or it has a column twice, or one of another type.
func (m *maker) all() {
	m.schemas = nil
	for _, name := range []string{"t", "u", "v"} {
		s := schema(name)
		for i := range m.size(1, api.MaxCols) {
			s.Cols = append(s.Cols, api.Column{Name: string("abcdefghi"[i]), Type: 1 + m.r.Intn(3), Must: m.r.Intn(3) == 0})
		}
		if m.strange() && len(s.Cols) > 0 {
			s.Cols[m.r.Intn(len(s.Cols))] = col(pick(m, "a", "b", ""), pick(m, -1, 0, 1, 4))
		}
		if m.strange() {
			s.Name = pick(m, "t", "")
		}
		m.schemas = append(m.schemas, s)
	}
}

// reads chooses what a select reads.
func (m *maker) reads() {
	m.from, m.fields = nil, nil
	for i := range m.size(1, api.MaxFrom) {
		s := m.schemas[m.r.Intn(len(m.schemas))]
		f := api.Source{Name: s.Name, As: string("xyzxyz"[i])}
		if m.strange() {
			f.Name = "nobody"
		}
		if m.strange() {
			f.As = pick(m, "x", "t", "")
		}
		m.from, m.fields = append(m.from, f), m.fields.with(f.As, s.Cols)
	}
}

// column is one of this type, if there is one; TAny: of any.
func (m *maker) column(kind int) (api.Expr, bool) {
	var l []field
	for _, f := range m.fields {
		if kind == api.TAny || f.kind == kind {
			l = append(l, f)
		}
	}
	if len(l) == 0 {
		return api.Expr{}, false
	}
	f := pick(m, l...)
	e := of(f.as, f.name)
	alone := func(o field) bool { return o.name == f.name }
	if n := slices.IndexFunc(m.fields, alone); m.r.Intn(2) == 0 && !slices.ContainsFunc(m.fields[n+1:], alone) || m.strange() {
		e.Table = ""
	}
	if m.strange() {
		e.Name = pick(m, "a", "nobody")
	}
	return e, true
}

func (m *maker) value(kind int) api.Value {
	if m.strange() {
		return pick(m, api.Value{Kind: 9}, api.Value{Kind: api.TBool, N: 2}, text(strings.Repeat("x", 65)), api.Value{N: 1}, num(math.MinInt))
	}
	if m.r.Intn(6) == 0 {
		return nothing
	}
	switch kind {
	case api.TInt:
		return num(pick(m, 0, 1, -1, 2, 3, 5, math.MaxInt, math.MinInt))
	case api.TBool:
		return truth(m.r.Intn(2))
	case api.TText:
		return text(pick(m, "", "x", "it's"))
	}
	return nothing
}

// side is a column or a value of this type.
func (m *maker) side(kind int) api.Expr {
	if m.strange() {
		return m.expr(m.r.Intn(4), 2)
	}
	if e, ok := m.column(kind); ok && m.r.Intn(3) > 0 {
		return e
	}
	return val(m.value(kind))
}

func (m *maker) expr(kind, size int) api.Expr {
	if m.strange() {
		kind = m.r.Intn(4)
	}
	if size == 0 || kind != api.TInt || m.r.Intn(2) == 0 {
		return m.side(kind)
	}
	e := api.Expr{Kind: api.EAdd + m.r.Intn(4)}
	n := 2
	if e.Kind == api.ENeg {
		n = 1
	}
	if m.strange() {
		e.Kind = pick(m, 0, 7, -1, api.ENeg, api.EAdd)
	}
	if m.strange() {
		n = m.r.Intn(4)
	}
	for range n {
		e.Args = append(e.Args, m.expr(api.TInt, size-1))
	}
	return e
}

func (m *maker) cond(size int) api.Cond {
	if m.strange() {
		return api.Cond{Kind: pick(m, 0, 0, 7, -1)}
	}
	c := api.Cond{Kind: 1 + m.r.Intn(6)}
	kind := 1 + m.r.Intn(3)
	switch {
	case c.Kind >= api.CAnd && size > 0:
		n := 1
		if c.Kind != api.CNot {
			n += m.r.Intn(3)
		}
		if m.strange() {
			n = m.r.Intn(3)
		}
		for range n {
			c.Args = append(c.Args, m.cond(size-1))
		}
		return c
	case c.Kind == api.CNull, c.Kind == api.CSome:
		c.L = m.side(kind)
		return c
	}
	c.Kind, c.Op, c.L, c.R = api.CCompare, 1+m.r.Intn(6), m.side(kind), m.side(kind)
	if m.strange() {
		c.Op = pick(m, 0, 7, -1)
	}
	if m.strange() {
		c.R = m.side(1 + m.r.Intn(3))
	}
	return c
}

// item is one of this type; in a group it is one of the group's columns, or an aggregate.
func (m *maker) item(kind int, grouped bool, group []api.Expr) api.Item {
	item := api.Item{As: pick(m, "", "", "k", "n")}
	if m.strange() {
		kind = m.r.Intn(4)
	}
	switch {
	case grouped && kind == api.TInt && m.r.Intn(2) == 0:
		item.Agg = pick(m, api.ACount, api.ASome, api.ASum)
	case grouped:
		item.Agg = pick(m, api.AMin, api.AMax)
	}
	item.E = m.expr(kind, 2)
	if item.Agg == api.ASome {
		item.E = m.expr(m.r.Intn(4), 2)
	}
	for _, g := range group {
		if at := slices.IndexFunc(m.fields, func(f field) bool { return f.as == g.Table && f.name == g.Name }); at >= 0 && m.fields[at].kind == kind && m.r.Intn(3) > 0 {
			item.Agg, item.E = api.ANone, g
		}
	}
	if m.strange() {
		item.Agg = pick(m, -1, 0, 1, 2, 3, 4, 5, 6, 7)
	}
	return item
}

func (m *maker) selected(kinds []int) api.Select {
	m.reads()
	s := api.Select{Distinct: m.r.Intn(4) == 0, From: m.from}
	if m.r.Intn(2) == 0 {
		s.Where = m.cond(2)
	}
	grouped := m.r.Intn(2) == 0
	if grouped && m.r.Intn(3) > 0 {
		for range m.size(1, api.MaxGroup) {
			e, _ := m.column(api.TAny)
			if m.strange() {
				e = m.expr(api.TInt, 1)
			}
			s.Group = append(s.Group, e)
		}
	}
	for _, kind := range kinds {
		s.Items = append(s.Items, m.item(kind, grouped, s.Group))
	}
	if m.strange() {
		s.Items = slices.Repeat(s.Items[:min(1, len(s.Items))], m.size(1, api.MaxItems))
	}
	return s
}

func (m *maker) query() api.Query {
	kinds := make([]int, m.size(1, api.MaxItems))
	for i := range kinds {
		kinds[i] = 1 + m.r.Intn(3)
	}
	var q api.Query
	for range m.size(1, api.MaxParts) {
		q.Parts = append(q.Parts, m.selected(kinds))
	}
	return q
}

// over takes one schema alone.
func (m *maker) over(s api.Schema) {
	m.fields = row{}.with(s.Name, s.Cols)
}

func (m *maker) sets(s api.Schema) []api.Set {
	m.over(s)
	var l []api.Set
	places := m.r.Perm(len(s.Cols))
	for i := range min(m.size(1, api.MaxCols), len(s.Cols)+min(m.odd, 1)) {
		if i >= len(places) {
			l = append(l, set(pick(m, "a", "nobody"), m.expr(api.TInt, 1)))
			continue
		}
		c := s.Cols[places[i]]
		if m.strange() {
			c.Name = pick(m, "a", "b", "nobody")
		}
		l = append(l, set(c.Name, m.expr(c.Type, 2)))
	}
	return l
}

// rows are some of a schema's types.
func (m *maker) rows(s api.Schema) []api.Many {
	var l []api.Many
	for range m.r.Intn(6) {
		one := api.Many{N: pick(m, 1, 1, 2, 3, 9)}
		for _, c := range s.Cols {
			one.Row = append(one.Row, m.value(c.Type))
		}
		l = append(l, one)
	}
	return bag.Of(l)
}

// TestManyQueries holds P18.1: queries with few faults, and with many, against the chapter's words.
func TestManyQueries(t *testing.T) {
	met := map[api.Errno]int{}
	for seed := range 60000 {
		m := maker{r: rand.New(rand.NewSource(int64(seed))), odd: []int{0, 30, 100, 300}[seed%4]}
		m.all()
		q := m.query()
		p, cols, err := Query(q, m.schemas)
		want, code := modelQuery(q, m.schemas)
		if err != code || !reflect.DeepEqual(p, want.plan) || !reflect.DeepEqual(cols, want.cols) {
			t.Fatalf("%d: %+v over %+v\nis   %+v, %+v, error %d\nwant %+v, %+v, error %d", seed, q, m.schemas, p, cols, err, want.plan, want.cols, code)
		}
		if m.odd > 0 {
			met[err]++
		}
	}
	for _, err := range []api.Errno{api.OK, api.ErrArg, api.ErrLong, api.ErrName, api.ErrTwice, api.ErrMany, api.ErrType, api.ErrGroup} {
		if met[err] < 300 {
			t.Errorf("error %d was met %d times", err, met[err])
		}
	}
}

// TestManyWheres holds P18.2 of conditions against the chapter's words.
func TestManyWheres(t *testing.T) {
	met := map[api.Errno]int{}
	for seed := range 40000 {
		m := maker{r: rand.New(rand.NewSource(int64(seed))), odd: []int{0, 10, 50}[seed%3]}
		m.all()
		s := m.schemas[seed%2]
		m.over(s)
		c := m.cond(3)
		got, err := Where(c, s)
		want, code := modelWhere(c, s)
		if err != code || !reflect.DeepEqual(got, want) {
			t.Fatalf("%d: %+v over %+v\nis   %+v, error %d\nwant %+v, error %d", seed, c, s, got, err, want, code)
		}
		met[err]++
	}
	for _, err := range []api.Errno{api.OK, api.ErrArg, api.ErrLong, api.ErrName, api.ErrMany, api.ErrType} {
		if met[err] < 100 {
			t.Errorf("error %d was met %d times", err, met[err])
		}
	}
}

// TestManySets holds P18.2 of new values against the chapter's words.
func TestManySets(t *testing.T) {
	met := map[api.Errno]int{}
	for seed := range 40000 {
		m := maker{r: rand.New(rand.NewSource(int64(seed))), odd: []int{0, 10, 50}[seed%3]}
		m.all()
		s := m.schemas[seed%2]
		l := m.sets(s)
		got, err := Sets(l, s)
		want, code := modelSets(l, s)
		if err != code || !reflect.DeepEqual(got, want) {
			t.Fatalf("%d: %+v over %+v\nis   %+v, error %d\nwant %+v, error %d", seed, l, s, got, err, want, code)
		}
		met[err]++
	}
	for _, err := range []api.Errno{api.OK, api.ErrArg, api.ErrLong, api.ErrName, api.ErrMany, api.ErrTwice, api.ErrType} {
		if met[err] < 100 {
			t.Errorf("error %d was met %d times", err, met[err])
		}
	}
}

// typed tells whether each value of each row is of its column's type, or nothing.
func typed(l []api.Many, cols []api.Column) bool {
	return !slices.ContainsFunc(l, func(o api.Many) bool {
		for i, v := range o.Row {
			if v.Kind != api.TAny && v.Kind != cols[i].Type {
				return true
			}
		}
		return len(o.Row) != len(cols)
	})
}

// TestBoundRuns holds P18.3: a plan that was bound may be, and tells values of its columns' types, or passes an end or a limit.
func TestBoundRuns(t *testing.T) {
	met := map[api.Errno]int{}
	some := 0
	for seed := range 20000 {
		m := maker{r: rand.New(rand.NewSource(int64(seed)))}
		m.all()
		var l []api.Named
		for _, s := range m.schemas {
			l = append(l, api.Named{Name: s.Name, Rows: m.rows(s)})
		}
		q := m.query()
		p, cols, err := Query(q, m.schemas)
		if err != api.OK {
			t.Fatalf("%d: %+v over %+v: error %d", seed, q, m.schemas, err)
		}
		if !plan.Right(p) || plan.Ready(p, l) != api.OK {
			t.Fatalf("%d: %+v may not be: %+v", seed, q, p)
		}
		rows, code := plan.Rows(p, l)
		again, other := exec.Run(p, l)
		if code != other || !reflect.DeepEqual(rows, again) || code != api.OK && code != api.ErrOverflow && code != api.ErrResource {
			t.Fatalf("%d: %+v over %+v: error %d, %d", seed, q, l, code, other)
		}
		if !typed(rows, cols) {
			t.Fatalf("%d: %+v: %+v aren't of %+v", seed, q, rows, cols)
		}
		met[code]++
		some += min(len(rows), 1)
	}
	if met[api.OK] < 5000 || met[api.ErrOverflow] < 300 || met[api.ErrResource] < 300 || some < 3000 {
		t.Errorf("%d were bound and told, %d rows; %v", met[api.OK], some, met)
	}
}

// TestBoundHolds holds P18.3 of conditions and new values over rows of a schema.
func TestBoundHolds(t *testing.T) {
	truths, met := [3]int{}, map[api.Errno]int{}
	for seed := range 30000 {
		m := maker{r: rand.New(rand.NewSource(int64(seed)))}
		m.all()
		s := m.schemas[seed%3]
		m.over(s)
		c, l := m.cond(2), m.sets(s)
		test, err := Where(c, s)
		puts, code := Sets(l, s)
		if err != api.OK || code != api.OK {
			t.Fatalf("%d: %+v: error %d; %+v: error %d", seed, c, err, l, code)
		}
		for _, o := range m.rows(s) {
			truths[expr.Holds(test, o.Row)]++
			for _, p := range puts {
				v, err := expr.Eval(p.E, o.Row)
				if err != api.OK && err != api.ErrOverflow || v.Kind != api.TAny && v.Kind != s.Cols[p.At].Type {
					t.Fatalf("%d: %+v over %+v: %+v, error %d", seed, l, o, v, err)
				}
				met[err]++
			}
		}
	}
	if slices.Min(truths[:]) < 1000 || met[api.OK] < 1000 || met[api.ErrOverflow] < 1000 {
		t.Errorf("%v, %v", truths, met)
	}
}
