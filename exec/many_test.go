package exec

import (
	"math"
	"math/rand"
	"slices"
	"testing"

	"belvedere/api"
	"belvedere/bag"
	"belvedere/expr"
	"belvedere/plan"
)

// maker makes plans and what is there, most of them right, with many joins.
type maker struct{ r *rand.Rand }

// rarely is true once in n times.
func (m maker) rarely(n int) bool { return m.r.Intn(n) == 0 }

// upTo is a number from 1 to n, or rarely one beside them.
func (m maker) upTo(n int) int {
	if m.rarely(200) {
		return []int{0, n + 1, n + 257}[m.r.Intn(3)]
	}
	return 1 + m.r.Intn(n)
}

// at is a place of that many, or rarely one beside them.
func (m maker) at(n int) int {
	if n = max(n, 1); m.rarely(800) {
		return []int{math.MinInt, -1, n, n + 256, math.MaxInt}[m.r.Intn(5)]
	}
	return m.r.Intn(n)
}

func (m maker) value() api.Value {
	switch m.r.Intn(40) {
	case 0:
		return held(m.r.Intn(2))
	case 1:
		return text([]string{"", "a"}[m.r.Intn(2)])
	case 2:
		return num([]int{math.MinInt, math.MaxInt, 1 << 62, -1 << 62}[m.r.Intn(4)])
	case 3:
		return api.Value{Kind: m.r.Intn(3) * 7, N: m.r.Intn(2)}
	case 4, 5, 6:
		return nothing
	}
	return num(m.r.Intn(4) - 1)
}

func (m maker) calc(width, size int) api.Calc {
	if size == 0 || m.rarely(2) {
		if m.rarely(4) {
			return val(m.value())
		}
		return col(m.at(width))
	}
	kind := api.EAdd + m.r.Intn(4)
	if kind == api.ENeg {
		return calc(kind, m.calc(width, size-1))
	}
	return calc(kind, m.calc(width, size-1), m.calc(width, size-1))
}

func (m maker) test(width, size int) api.Test {
	if size == 0 || m.rarely(3) {
		c := api.Test{Kind: m.r.Intn(4), Op: 1 + m.r.Intn(6), L: m.calc(width, 0), R: m.calc(width, 0)}
		if m.rarely(30) {
			c.Args = []api.Test{m.test(width, 0)}
		}
		return c
	}
	c := api.Test{Kind: api.CAnd + m.r.Intn(3), Args: []api.Test{m.test(width, size-1)}}
	if c.Kind != api.CNot {
		c.Args = append(c.Args, m.test(width, size-1))
	}
	return c
}

// where is conditions that must all hold, most of them comparisons of columns for sameness.
func (m maker) where(width int) api.Test {
	var l []api.Test
	for range m.r.Intn(4) {
		if m.rarely(3) {
			l = append(l, m.test(width, m.r.Intn(3)))
		} else {
			l = append(l, same(m.at(width), m.at(width)))
		}
	}
	if len(l) == 1 {
		return l[0]
	}
	return and(l...)
}

// widths is how wide the rows are of t, u, v and w.
func widths() map[string]int { return map[string]int{"t": 2, "u": 1, "v": 3, "w": 2} }

func (m maker) sources(p *api.Part) int {
	width := 0
	for range min(m.upTo(3), 5) {
		name := []string{"t", "u", "v", "w", "x"}[m.r.Intn(4+m.r.Intn(40)/39)]
		w := widths()[name]
		if m.rarely(150) {
			w = m.upTo(8)
		}
		p.From, p.Widths, width = append(p.From, name), append(p.Widths, w), width+w
	}
	return width
}

func (m maker) out(width int, p api.Part) api.Out {
	o := api.Out{Agg: m.upTo(6), E: m.calc(width, m.r.Intn(3)), Name: "n", Type: m.r.Intn(4)}
	if len(p.Group) > 0 && m.rarely(2) {
		return tells(col(p.Group[m.r.Intn(len(p.Group))]))
	}
	return o
}

func (m maker) part(outs int) api.Part {
	p := api.Part{Distinct: m.rarely(4)}
	width := m.sources(&p)
	p.Where = m.where(width)
	byGroups := m.rarely(2)
	if byGroups && !m.rarely(4) {
		for range min(m.upTo(4), 6) {
			p.Group = append(p.Group, m.at(width))
		}
	}
	for range outs {
		o := m.out(width, p)
		if !byGroups {
			o.Agg = api.ANone
		}
		p.Outs = append(p.Outs, o)
	}
	return p
}

func (m maker) plan() api.Plan {
	n := min(m.upTo(8), 10)
	var p api.Plan
	for range min(m.upTo(1+m.r.Intn(4)), 6) {
		if m.rarely(60) {
			n = 2
		}
		p.Parts = append(p.Parts, m.part(n))
	}
	return p
}

func (m maker) rows(width int) []api.Many {
	var l []api.Many
	for range m.r.Intn(7) {
		r := row()
		for range width {
			r = append(r, m.value())
		}
		n := 1 + m.r.Intn(3)
		if m.rarely(12) {
			n = 1 + m.r.Intn(40)
		}
		l = append(l, many(n, r))
	}
	l = bag.Of(l)
	if len(l) > 0 && m.rarely(150) {
		at := &l[m.r.Intn(len(l))]
		switch m.r.Intn(3) {
		case 0:
			at.N = []int{0, -1, 1 << 30, api.MaxMany, api.MaxMany + 1, math.MaxInt}[m.r.Intn(6)]
		case 1:
			at.Row = append(at.Row, num(1))
		case 2:
			slices.Reverse(l)
		}
	}
	return l
}

func (m maker) there() []api.Named {
	var l []api.Named
	for _, name := range []string{"t", "u", "v", "w", "u"} {
		if !m.rarely(150) {
			l = append(l, named(name, m.rows(widths()[name])...))
		}
	}
	m.r.Shuffle(len(l), func(i, j int) { l[i], l[j] = l[j], l[i] })
	return l
}

// TestManyPlans holds P13.1 and P13.2 against layer 12, which looks at all rows side by side.
func TestManyPlans(t *testing.T) {
	m := maker{rand.New(rand.NewSource(1))}
	came := map[api.Errno]int{}
	joined, grouped, several := 0, 0, 0
	for range 12000 {
		p, l := m.plan(), m.there()
		want, wantErr := plan.Rows(p, l)
		if came[wantErr]++; wantErr != api.OK {
			refused(t, p, l, wantErr)
		} else {
			gathers(t, p, l, want...)
		}
		if t.Failed() {
			return
		}
		told, _ := Run(p, l)
		rows, _ := List(p, l)
		apart(t, slices.Concat(bare(told), rows, slices.Collect(Each(p, l))), l)
		if wantErr != api.OK || len(want) == 0 {
			continue
		}
		if plan.Grouped(p.Parts[0]) {
			grouped++
		}
		if len(want) > 4 {
			several++
		}
		if one := p.Parts[0]; len(one.From) > 1 && slices.ContainsFunc(expr.Both(one.Where), func(c api.Test) bool { return c.Kind == api.CCompare && c.Op == api.OpEq }) {
			joined++
		}
	}
	for err, least := range map[api.Errno]int{api.OK: 4000, api.ErrArg: 300, api.ErrName: 100, api.ErrResource: 100, api.ErrType: 100, api.ErrOverflow: 40} {
		if came[err] < least {
			t.Errorf("only %d came to %d", came[err], err)
		}
	}
	if joined < 800 || grouped < 800 || several < 400 {
		t.Errorf("only %d of joins, %d of groups, %d of several rows", joined, grouped, several)
	}
}

// moved is p with its first two sources in the other order.
func moved(p api.Part) api.Part {
	a, b := p.Widths[0], p.Widths[1]
	to := func(at int) int {
		switch {
		case at < a:
			return at + b
		case at < a+b:
			return at - a
		}
		return at
	}
	p.From, p.Widths, p.Group, p.Outs = slices.Clone(p.From), slices.Clone(p.Widths), slices.Clone(p.Group), slices.Clone(p.Outs)
	p.From[0], p.From[1], p.Widths[0], p.Widths[1] = p.From[1], p.From[0], b, a
	for i := range p.Group {
		p.Group[i] = to(p.Group[i])
	}
	for i := range p.Outs {
		p.Outs[i].E = movedCalc(p.Outs[i].E, to)
	}
	p.Where = movedTest(p.Where, to)
	return p
}

func movedCalc(e api.Calc, to func(int) int) api.Calc {
	e.At = to(e.At)
	e.Args = slices.Clone(e.Args)
	for i := range e.Args {
		e.Args[i] = movedCalc(e.Args[i], to)
	}
	return e
}

func movedTest(c api.Test, to func(int) int) api.Test {
	c.L, c.R, c.Args = movedCalc(c.L, to), movedCalc(c.R, to), slices.Clone(c.Args)
	for i := range c.Args {
		c.Args[i] = movedTest(c.Args[i], to)
	}
	return c
}

// TestSourcesInEitherOrder holds P13.3: in whatever order a join's two sources stand, it tells the same.
func TestSourcesInEitherOrder(t *testing.T) {
	m := maker{rand.New(rand.NewSource(2))}
	told := 0
	for range 20000 {
		p, l := m.part(1+m.r.Intn(3)), m.there()
		if len(p.From) < 2 || !plan.Right(planOf(p)) {
			continue
		}
		want, wantErr := Run(planOf(p), l)
		if got, err := Run(planOf(moved(p)), l); plan.Ready(planOf(p), l) == api.OK && (err != wantErr || !alikeBags(got, want)) {
			t.Fatalf("%+v over %+v tells %+v, %d, turned round %+v, %d", p, l, want, wantErr, got, err)
		}
		if len(want) > 1 {
			told++
		}
	}
	if told < 2000 {
		t.Errorf("only %d told rows", told)
	}
}

// TestTwiceAsMany holds P13.3: twice as many of each of a source's rows are twice as many of what is told, without
// groups and distinct.
func TestTwiceAsMany(t *testing.T) {
	m := maker{rand.New(rand.NewSource(3))}
	told := 0
	for range 20000 {
		p, l := m.part(1+m.r.Intn(3)), m.there()
		p.Distinct = false
		once, err := Run(planOf(p), l)
		if plan.Grouped(p) || err != api.OK {
			continue
		}
		// The source gets a name of its own, since its name may be read twice.
		at := m.r.Intn(len(p.From))
		i := slices.IndexFunc(l, func(n api.Named) bool { return n.Name == p.From[at] })
		twice := named("twice")
		for _, row := range l[i].Rows {
			twice.Rows = append(twice.Rows, many(2*row.N, row.Row))
		}
		p.From[at] = "twice"
		l = append(l, twice)
		got, err := Run(planOf(p), l)
		// Twice as many may be too many.
		if err == api.ErrResource || plan.Ready(planOf(p), l) != api.OK {
			continue
		}
		if err != api.OK || !alikeBags(got, bag.Add(once, once)) {
			t.Fatalf("%+v over %+v tells %+v, %d, want twice %+v", p, l, got, err, once)
		}
		if len(once) > 1 {
			told++
		}
	}
	if told < 2000 {
		t.Errorf("only %d told rows", told)
	}
}
