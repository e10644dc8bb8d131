package plan

import (
	"fmt"
	"math"
	"math/big"
	"math/rand"
	"slices"
	"testing"

	"belvedere/api"
	"belvedere/bag"
	"belvedere/expr"
	"belvedere/value"
)

// maker makes plans and what is there, most of them right.
type maker struct{ r *rand.Rand }

// rarely is true once in n times.
func (m maker) rarely(n int) bool { return m.r.Intn(n) == 0 }

// upTo is a number from 1 to n, or rarely one beside them.
func (m maker) upTo(n int) int {
	if m.rarely(150) {
		return []int{math.MinInt, -1, 0, n + 1, n + 257, math.MaxInt}[m.r.Intn(6)]
	}
	return 1 + m.r.Intn(n)
}

// at is a place of that many, or rarely one beside them.
func (m maker) at(n int) int {
	if n = max(n, 1); m.rarely(400) {
		return []int{math.MinInt, -1, n, n + 256, math.MaxInt}[m.r.Intn(5)]
	}
	return m.r.Intn(n)
}

func (m maker) value() api.Value {
	switch m.r.Intn(40) {
	case 0:
		return held(m.r.Intn(2))
	case 1:
		return text([]string{"", "a"}[m.r.Intn(2)])
	case 2:
		return num([]int{math.MinInt, math.MaxInt, 1 << 62, -1 << 62}[m.r.Intn(4)])
	case 3, 4, 5, 6:
		return nothing
	}
	return num(m.r.Intn(5) - 2)
}

func (m maker) calc(width, size int) api.Calc {
	if size == 0 || m.rarely(2) {
		if m.rarely(4) {
			return val(m.value())
		}
		return col(m.at(width))
	}
	kind := api.EAdd + m.r.Intn(4)
	if kind == api.ENeg {
		return calc(kind, m.calc(width, size-1))
	}
	return calc(kind, m.calc(width, size-1), m.calc(width, size-1))
}

func (m maker) test(width, size int) api.Test {
	if size == 0 || m.rarely(3) {
		return api.Test{Kind: m.r.Intn(4), Op: 1 + m.r.Intn(6), L: m.calc(width, 0), R: m.calc(width, 0)}
	}
	c := api.Test{Kind: api.CAnd + m.r.Intn(3), Args: []api.Test{m.test(width, size-1)}}
	if c.Kind != api.CNot {
		c.Args = append(c.Args, m.test(width, size-1))
	}
	return c
}

// widths is how wide the rows are of t, u, v and w.
func widths() map[string]int { return map[string]int{"t": 2, "u": 1, "v": 3, "w": 2} }

func (m maker) sources(p *api.Part) int {
	n := m.upTo(3)
	width := 0
	for range max(0, min(n, 5)) {
		name := []string{"t", "u", "v", "w", "x"}[m.r.Intn(4+m.r.Intn(30)/29)]
		w := widths()[name]
		if m.rarely(100) {
			w = m.upTo(8)
		}
		p.From, p.Widths, width = append(p.From, name), append(p.Widths, w), width+w
	}
	return width
}

func (m maker) out(width int, p api.Part) api.Out {
	o := api.Out{Agg: m.upTo(6), E: m.calc(width, m.r.Intn(3)), Name: "n", Type: m.r.Intn(4)}
	if len(p.Group) > 0 && m.rarely(2) {
		return tells(col(p.Group[m.r.Intn(len(p.Group))]))
	}
	return o
}

func (m maker) part(outs int) api.Part {
	p := api.Part{Distinct: m.rarely(4)}
	width := m.sources(&p)
	if m.rarely(2) {
		p.Where = m.test(width, m.r.Intn(3))
	}
	byGroups := m.rarely(2)
	if byGroups && !m.rarely(4) {
		for range max(0, min(m.upTo(4), 6)) {
			p.Group = append(p.Group, m.at(width))
		}
	}
	for range outs {
		o := m.out(width, p)
		if !byGroups {
			o.Agg = api.ANone
		}
		p.Outs = append(p.Outs, o)
	}
	return p
}

func (m maker) plan() api.Plan {
	n := max(0, min(m.upTo(8), 10))
	var p api.Plan
	for range max(0, min(m.upTo(1+m.r.Intn(4)), 6)) {
		if m.rarely(60) {
			n = 2
		}
		p.Parts = append(p.Parts, m.part(n))
	}
	return p
}

func (m maker) rows(width int) []api.Many {
	var l []api.Many
	for range m.r.Intn(6) {
		r := row()
		for range width {
			r = append(r, m.value())
		}
		n := 1 + m.r.Intn(3)
		if m.rarely(12) {
			n = 1 + m.r.Intn(60)
		}
		l = append(l, many(n, r))
	}
	l = bag.Of(l)
	if len(l) > 0 && m.rarely(120) {
		at := &l[m.r.Intn(len(l))]
		switch m.r.Intn(3) {
		case 0:
			at.N = []int{0, -1, 1 << 30, api.MaxMany, api.MaxMany + 1, math.MaxInt}[m.r.Intn(6)]
		case 1:
			at.Row = append(at.Row, num(1))
		case 2:
			slices.Reverse(l)
		}
	}
	return l
}

func (m maker) there() []api.Named {
	var l []api.Named
	for _, name := range []string{"t", "u", "v", "w", "u"} {
		if !m.rarely(120) {
			l = append(l, named(name, m.rows(widths()[name])...))
		}
	}
	m.r.Shuffle(len(l), func(i, j int) { l[i], l[j] = l[j], l[i] })
	return l
}

// find is the rows of a name by the chapter's words, and whether it is there.
func find(l []api.Named, name string) ([]api.Many, bool) {
	i := slices.IndexFunc(l, func(n api.Named) bool { return n.Name == name })
	if i < 0 {
		return nil, false
	}
	return l[i].Rows, true
}

// faultOf tells what isn't as the chapter says of a part, or nothing.
func faultOf(p api.Part) string {
	width := 0
	for _, w := range p.Widths {
		if w < 1 || w > 8 {
			return "a width"
		}
		width += w
	}
	read := append(slices.Clone(p.Group), expr.Asks(p.Where)...)
	groups := len(p.Group) != 0
	for _, o := range p.Outs {
		read = append(read, expr.Reads(o.E)...)
		groups = groups || o.Agg != 0
		if o.Agg < 0 || o.Agg > 6 {
			return "an Agg"
		}
	}
	for _, at := range read {
		if at < 0 || at >= width {
			return "a place"
		}
	}
	for _, o := range p.Outs {
		if groups && o.Agg == 0 && (o.E.Kind != api.EColumn || slices.Index(p.Group, o.E.At) < 0) {
			return "an Out of a group"
		}
	}
	if len(p.From) == 0 || len(p.From) > 3 || len(p.From) != len(p.Widths) || len(p.Outs) == 0 || len(p.Outs) > 8 || len(p.Group) > 4 {
		return "a number"
	}
	return ""
}

func modelRight(p api.Plan) bool {
	for _, part := range p.Parts {
		if faultOf(part) != "" || len(part.Outs) != len(p.Parts[0].Outs) {
			return false
		}
	}
	return len(p.Parts) >= 1 && len(p.Parts) <= 4
}

func modelReady(p api.Plan, l []api.Named) api.Errno {
	if !modelRight(p) {
		return api.ErrArg
	}
	for _, part := range p.Parts {
		for i, name := range part.From {
			rows, found := find(l, name)
			if !found {
				return api.ErrName
			}
			for j, m := range rows {
				if m.N < 1 || m.N > api.MaxMany || len(m.Row) != part.Widths[i] || j > 0 && value.Rows(rows[j-1].Row, m.Row) != -1 {
					return api.ErrArg
				}
			}
		}
	}
	return api.OK
}

// modelCost reckons without bounds, and cuts only what comes of it.
func modelCost(p api.Plan, l []api.Named) int {
	all := new(big.Int)
	for _, part := range p.Parts {
		product := big.NewInt(1)
		for _, name := range part.From {
			rows, _ := find(l, name)
			n := new(big.Int)
			for _, m := range rows {
				n.Add(n, big.NewInt(int64(max(m.N, 0))))
			}
			product.Mul(product, n)
		}
		all.Add(all, product)
	}
	if all.Cmp(big.NewInt(api.MaxMany)) > 0 {
		return api.MaxMany
	}
	return int(all.Int64())
}

// sides puts the rows of l's names side by side, each as often as it is there, one by one.
func sides(names []string, l []api.Named) [][]api.Value {
	if len(names) == 0 {
		return [][]api.Value{nil}
	}
	rows, _ := find(l, names[len(names)-1])
	var all [][]api.Value
	for _, ahead := range sides(names[:len(names)-1], l) {
		for _, last := range bag.Rows(rows) {
			all = append(all, slices.Concat(ahead, last))
		}
	}
	return all
}

// met are the errors of all that is reckoned, in order.
type met struct{ all []api.Errno }

func (m *met) eval(e api.Calc, r []api.Value) api.Value {
	v, err := expr.Eval(e, r)
	m.add(err)
	return v
}

func (m *met) add(err api.Errno) {
	if err != api.OK {
		m.all = append(m.all, err)
	}
}

// one is the error that counts.
func (m *met) one() api.Errno {
	switch {
	case slices.Contains(m.all, api.ErrType):
		return api.ErrType
	case len(m.all) > 0:
		return m.all[0]
	}
	return api.OK
}

// modelSum is the sum of l in exact numbers.
func (m *met) modelSum(l []api.Value) api.Value {
	sum := new(big.Int)
	for _, v := range l {
		if v.Kind != api.TInt {
			m.add(api.ErrType)
		}
		sum.Add(sum, big.NewInt(int64(v.N)))
	}
	if !sum.IsInt64() {
		m.add(api.ErrOverflow)
		return nothing
	}
	return num(int(sum.Int64()))
}

// modelOut tells what an Out tells of rows, each of which stands there as often as it is.
func (m *met) modelOut(o api.Out, rows [][]api.Value) api.Value {
	if o.Agg == api.ANone {
		return m.eval(o.E, rows[len(rows)-1])
	}
	if o.Agg == api.ACount {
		return num(len(rows))
	}
	var l []api.Value
	for _, r := range rows {
		if v := m.eval(o.E, r); v.Kind != api.TAny {
			l = append(l, v)
		}
	}
	switch {
	case o.Agg == api.ASome:
		return num(len(l))
	case o.Agg == api.ATotal:
		return m.modelSum(l)
	case len(l) == 0:
		return nothing
	case o.Agg == api.ASum:
		return m.modelSum(l)
	case o.Agg == api.AMin:
		return slices.MinFunc(l, value.Cmp)
	}
	return slices.MaxFunc(l, value.Cmp)
}

// modelGroups are the rows by the values of the group's columns, in the order in which they are met.
func modelGroups(p api.Part, rows [][]api.Value) [][][]api.Value {
	if !slices.ContainsFunc(p.Outs, func(o api.Out) bool { return o.Agg != 0 }) && len(p.Group) == 0 {
		var each [][][]api.Value
		for _, r := range rows {
			each = append(each, [][]api.Value{r})
		}
		return each
	}
	if len(p.Group) == 0 {
		return [][][]api.Value{rows}
	}
	var found [][][]api.Value
	place := map[string]int{}
	for _, r := range rows {
		var by []api.Value
		for _, at := range p.Group {
			by = append(by, r[at])
		}
		key := fmt.Sprintf("%#v", by)
		if _, there := place[key]; !there {
			place[key] = len(found)
			found = append(found, nil)
		}
		found[place[key]] = append(found[place[key]], r)
	}
	return found
}

func modelRows(p api.Plan, l []api.Named) ([]api.Many, api.Errno) {
	if err := modelReady(p, l); err != api.OK {
		return nil, err
	}
	if modelCost(p, l) > 2000 {
		return nil, api.ErrResource
	}
	var m met
	var all [][]api.Value
	for _, part := range p.Parts {
		var kept, rows [][]api.Value
		// Sources in which there is nothing leave none, however many rows the others have.
		if modelCost(planOf(part), l) > 0 {
			kept = slices.DeleteFunc(sides(part.From, l), func(r []api.Value) bool { return expr.Holds(part.Where, r) != api.True })
		}
		for _, g := range modelGroups(part, kept) {
			var r []api.Value
			for _, o := range part.Outs {
				r = append(r, m.modelOut(o, g))
			}
			if !part.Distinct || !slices.ContainsFunc(rows, func(other []api.Value) bool { return slices.Equal(other, r) }) {
				rows = append(rows, r)
			}
		}
		all = append(all, rows...)
	}
	if err := m.one(); err != api.OK {
		return nil, err
	}
	return bag.List(all), api.OK
}

// TestManyPlans holds P12.1 and P12.2 against the model, which looks at rows one by one and reckons in exact numbers.
func TestManyPlans(t *testing.T) {
	m := maker{rand.New(rand.NewSource(1))}
	came := map[api.Errno]int{}
	grouped, several := 0, 0
	for range 30000 {
		p, l := m.plan(), m.there()
		if got, want := Right(p), modelRight(p); got != want {
			t.Fatalf("Right(%+v) = %t, want %t", p, got, want)
		}
		if got, want := Cost(p, l), modelCost(p, l); got != want {
			t.Fatalf("Cost(%+v, %+v) = %d, want %d", p, l, got, want)
		}
		if got, want := Ready(p, l), modelReady(p, l); got != want {
			t.Fatalf("Ready(%+v, %+v) = %d, want %d", p, l, got, want)
		}
		want, wantErr := modelRows(p, l)
		if got, err := Rows(p, l); err != wantErr || !alikeBags(got, want) {
			t.Fatalf("Rows(%+v, %+v) = %+v, %d, want %+v, %d", p, l, got, err, want, wantErr)
		} else {
			apart(t, got, l)
		}
		came[wantErr]++
		if wantErr == api.OK && len(want) > 0 && Grouped(p.Parts[0]) {
			grouped++
		}
		if len(want) > 4 {
			several++
		}
	}
	for err, least := range map[api.Errno]int{api.OK: 3000, api.ErrArg: 500, api.ErrName: 300, api.ErrResource: 300, api.ErrType: 300, api.ErrOverflow: 100} {
		if came[err] < least {
			t.Errorf("only %d came to %d", came[err], err)
		}
	}
	if grouped < 800 || several < 800 {
		t.Errorf("only %d of groups, %d of several rows", grouped, several)
	}
}

// TestConditionsPart holds P12.3: a condition parts a select's rows in those for which it is True, False, Unknown.
func TestConditionsPart(t *testing.T) {
	m := maker{rand.New(rand.NewSource(2))}
	parted := 0
	for range 6000 {
		p, l := m.part(1+m.r.Intn(3)), m.there()
		p.Distinct, p.Where = false, api.Test{}
		all, err := Rows(planOf(p), l)
		if err != api.OK || Grouped(p) {
			continue
		}
		c := m.test(p.Widths[0], 2)
		p.Where = c
		if !Right(planOf(p)) {
			continue
		}
		holds, fails := onlyTrue(p, c, l), onlyTrue(p, join(api.CNot, c), l)
		if len(holds) > 0 && len(holds) < len(all) {
			parted++
		}
		rest := bag.Less(all, bag.Add(holds, fails))
		if !bag.Plain(rest) {
			t.Fatalf("%+v: %+v are told twice, of %+v", p, rest, all)
		}
		if got := unknown(p, c, l); !alikeBags(got, rest) {
			t.Fatalf("%+v: %+v for which %+v is Unknown, want %+v", p, got, c, rest)
		}
	}
	if parted < 100 {
		t.Errorf("only %d were parted", parted)
	}
}

func onlyTrue(p api.Part, c api.Test, l []api.Named) []api.Many {
	p.Where = c
	rows, _ := Rows(planOf(p), l)
	return rows
}

// unknown tells what p tells of its rows for which c is Unknown, each asked for alone.
func unknown(p api.Part, c api.Test, l []api.Named) []api.Many {
	var all []api.Many
	for _, r := range sides(p.From, l) {
		if expr.Holds(c, r) != api.Unknown {
			continue
		}
		one := p
		one.Where = api.Test{}
		var alone []api.Named
		for i, w := range p.Widths {
			one.From = append(one.From[:i:i], fmt.Sprint(i))
			alone = append(alone, named(fmt.Sprint(i), many(1, r[:w])))
			r = r[w:]
		}
		rows, _ := Rows(planOf(one), alone)
		all = append(all, rows...)
	}
	return bag.Of(all)
}

// TestGroupsCountAllRows holds P12.3: groups' counts come to all rows.
func TestGroupsCountAllRows(t *testing.T) {
	m := maker{rand.New(rand.NewSource(3))}
	counted := 0
	for range 6000 {
		p, l := m.part(1), m.there()
		p.Distinct, p.Outs = false, []api.Out{counts()}
		rows, err := Rows(planOf(p), l)
		if err != api.OK {
			continue
		}
		n := 0
		for _, r := range rows {
			n += r.N * r.Row[0].N
		}
		p.Group, p.Outs = nil, []api.Out{tells(lit(1))}
		all, err := Rows(planOf(p), l)
		if err != api.OK || n != bag.Count(all) {
			t.Fatalf("%+v: groups of %d rows, but there are %+v, %d", p, n, all, err)
		}
		if n > 3 {
			counted++
		}
	}
	if counted < 500 {
		t.Errorf("only %d had rows", counted)
	}
}
