package delta

import (
	"fmt"
	"math"
	"math/big"
	"math/rand"
	"slices"
	"testing"

	"belvedere/api"
	"belvedere/bag"
	"belvedere/expr"
	"belvedere/plan"
	"belvedere/value"
)

// maker makes plans, what was there and what comes and goes, most of them right.
type maker struct{ r *rand.Rand }

// rarely is true once in n times.
func (m maker) rarely(n int) bool { return m.r.Intn(n) == 0 }

// at is a place of that many, or rarely one beside them.
func (m maker) at(n int) int {
	if n = max(n, 1); m.rarely(1500) {
		return []int{math.MinInt, -1, n, n + 256, math.MaxInt}[m.r.Intn(5)]
	}
	return m.r.Intn(n)
}

func (m maker) value() api.Value {
	switch m.r.Intn(60) {
	case 0:
		return held(m.r.Intn(2))
	case 1:
		return text([]string{"", "a"}[m.r.Intn(2)])
	case 2:
		return num([]int{math.MinInt, math.MaxInt, 1 << 62, -1 << 62}[m.r.Intn(4)])
	case 3:
		return api.Value{Kind: m.r.Intn(3) * 7, N: m.r.Intn(2)}
	case 4, 5, 6:
		return nothing
	}
	return num(m.r.Intn(4) - 1)
}

func (m maker) calc(width, size int) api.Calc {
	if size == 0 || m.rarely(2) {
		if m.rarely(4) {
			return val(m.value())
		}
		return col(m.at(width))
	}
	kind := api.EAdd + m.r.Intn(4)
	if kind == api.ENeg {
		return calc(kind, m.calc(width, size-1))
	}
	return calc(kind, m.calc(width, size-1), m.calc(width, size-1))
}

func (m maker) test(width, size int) api.Test {
	if size == 0 || m.rarely(3) {
		return api.Test{Kind: m.r.Intn(4), Op: 1 + m.r.Intn(6), L: m.calc(width, 0), R: m.calc(width, 0)}
	}
	c := api.Test{Kind: api.CAnd + m.r.Intn(3), Args: []api.Test{m.test(width, size-1)}}
	if c.Kind != api.CNot {
		c.Args = append(c.Args, m.test(width, size-1))
	}
	return c
}

// widths is how wide the rows are of t, u, v and w.
func widths() map[string]int { return map[string]int{"t": 2, "u": 1, "v": 3, "w": 2} }

func (m maker) part(outs int) api.Part {
	p := api.Part{Distinct: m.rarely(60)}
	width := 0
	for range 1 + m.r.Intn(3) + m.r.Intn(400)/399 {
		name := []string{"t", "u", "v", "w", "x"}[m.r.Intn(4+m.r.Intn(60)/59)]
		w := widths()[name]
		if m.rarely(200) {
			w = m.r.Intn(10)
		}
		p.From, p.Widths, width = append(p.From, name), append(p.Widths, w), width+w
	}
	if m.rarely(2) {
		p.Where = m.test(width, m.r.Intn(3))
	}
	if m.rarely(60) {
		p.Group = append(p.Group, m.at(width))
	}
	for range outs {
		o := tells(m.calc(width, m.r.Intn(3)))
		if len(p.Group) > 0 || m.rarely(200) {
			o.Agg = 1 + m.r.Intn(6)
		}
		p.Outs = append(p.Outs, o)
	}
	return p
}

func (m maker) plan() api.Plan {
	n := 1 + m.r.Intn(3)
	var p api.Plan
	for range 1 + m.r.Intn(3) {
		if m.rarely(100) {
			n = 2
		}
		p.Parts = append(p.Parts, m.part(n))
	}
	return p
}

func (m maker) row(width int) []api.Value {
	var r []api.Value
	for range width {
		r = append(r, m.value())
	}
	return r
}

func (m maker) often() int {
	if m.rarely(25) {
		return 1 + m.r.Intn(30)
	}
	return 1 + m.r.Intn(3)
}

func (m maker) old() []api.Named {
	var l []api.Named
	for _, name := range []string{"t", "u", "v", "w", "u"} {
		var rows []api.Many
		for range m.r.Intn(5) {
			rows = append(rows, many(m.often(), m.row(widths()[name])))
		}
		if !m.rarely(200) {
			l = append(l, named(name, m.spoilt(bag.Of(rows))...))
		}
	}
	m.r.Shuffle(len(l), func(i, j int) { l[i], l[j] = l[j], l[i] })
	return l
}

// spoilt is l, or rarely a list that is no bag, or doesn't fit.
func (m maker) spoilt(l []api.Many) []api.Many {
	if len(l) == 0 || !m.rarely(250) {
		return l
	}
	at := &l[m.r.Intn(len(l))]
	switch m.r.Intn(3) {
	case 0:
		at.N = []int{0, -1, 1 << 30, api.MaxMany, api.MaxMany + 1, math.MaxInt, math.MinInt}[m.r.Intn(7)]
	case 1:
		at.Row = append(at.Row, num(1))
	case 2:
		slices.Reverse(l)
	}
	return l
}

// changes come and go of what is there: most rows that go are there.
func (m maker) changes(there []api.Named) []api.Named {
	var l []api.Named
	for _, name := range []string{"t", "u", "v", "w", "x", "u"} {
		if m.rarely(3) {
			continue
		}
		rows, _ := find(there, name)
		var ch []api.Many
		for range m.r.Intn(4) {
			if n := len(rows); n > 0 && m.rarely(2) {
				from := rows[m.r.Intn(n)]
				ch = append(ch, many(-1-m.r.Intn(max(1, min(from.N, 30)+m.r.Intn(20)/19)), slices.Clone(from.Row)))
			} else {
				ch = append(ch, many(m.often(), m.row(widths()[name])))
			}
		}
		l = append(l, named(name, m.spoilt(bag.Of(ch))...))
	}
	m.r.Shuffle(len(l), func(i, j int) { l[i], l[j] = l[j], l[i] })
	return l
}

// find is the rows of a name by the chapter's words, and whether it is there.
func find(l []api.Named, name string) ([]api.Many, bool) {
	i := slices.IndexFunc(l, func(n api.Named) bool { return n.Name == name })
	if i < 0 {
		return nil, false
	}
	return l[i].Rows, true
}

// sumAbove is the sum of the numbers that are above 0, in exact numbers.
func sumAbove(l []*big.Int) *big.Int {
	n := new(big.Int)
	for _, m := range l {
		if m.Sign() > 0 {
			n.Add(n, m)
		}
	}
	return n
}

// exact is the numbers of old and ch together, row by row.
func exact(old, ch []api.Many) []*big.Int {
	byRow := map[string]*big.Int{}
	var l []*big.Int
	for _, m := range slices.Concat(old, ch) {
		key := fmt.Sprintf("%#v", m.Row)
		if len(m.Row) == 0 {
			key = ""
		}
		if byRow[key] == nil {
			byRow[key] = new(big.Int)
			l = append(l, byRow[key])
		}
		byRow[key].Add(byRow[key], big.NewInt(int64(m.N)))
	}
	return l
}

// modelCost reckons without bounds, place by place, and cuts only what comes of it.
func modelCost(p api.Plan, old, ch []api.Named) int {
	all := new(big.Int)
	for _, part := range p.Parts {
		for i := range part.From {
			product := big.NewInt(1)
			for j, name := range part.From {
				had, there := find(old, name)
				changes, _ := find(ch, name)
				var n []*big.Int
				for _, m := range had {
					n = append(n, big.NewInt(int64(m.N)))
				}
				switch {
				case j == i:
					n = nil
					for _, m := range changes {
						n = append(n, new(big.Int).Abs(big.NewInt(int64(m.N))))
					}
				case j > i && there:
					n = exact(had, changes)
				}
				product.Mul(product, sumAbove(n))
			}
			all.Add(all, product)
		}
	}
	if all.Cmp(big.NewInt(api.MaxMany)) > 0 {
		return api.MaxMany
	}
	return int(all.Int64())
}

// modelErr is the first error ahead of what is reckoned.
func modelErr(p api.Plan, old, ch []api.Named) api.Errno {
	if err := plan.Ready(p, old); err != api.OK {
		return err
	}
	for _, n := range ch {
		for i, m := range n.Rows {
			if m.N == 0 || m.N > api.MaxMany || m.N < -api.MaxMany || i > 0 && value.Rows(n.Rows[i-1].Row, m.Row) != -1 {
				return api.ErrArg
			}
		}
	}
	if err := plan.Ready(p, nowOf(old, ch)); err != api.OK {
		return err
	}
	for _, part := range p.Parts {
		groups := len(part.Group) > 0
		for _, o := range part.Outs {
			groups = groups || o.Agg > 0
		}
		if groups || part.Distinct {
			return api.ErrFast
		}
	}
	if modelCost(p, old, ch) > api.MaxRows {
		return api.ErrResource
	}
	return api.OK
}

// sides puts the rows of l's names side by side.
func sides(names []string, l []api.Named) []api.Many {
	if len(names) == 0 {
		return []api.Many{{N: 1}}
	}
	rows, _ := find(l, names[0])
	var all []api.Many
	for _, first := range rows {
		for _, m := range sides(names[1:], l) {
			all = append(all, many(first.N*m.N, slices.Concat(first.Row, m.Row)))
		}
	}
	return all
}

// model tells by definition: what is there now side by side without what was there, each as a whole.
func model(p api.Plan, old, ch []api.Named) ([]api.Many, api.Errno) {
	if err := modelErr(p, old, ch); err != api.OK {
		return nil, err
	}
	var all []api.Many
	met := map[api.Errno]bool{}
	for _, part := range p.Parts {
		for _, m := range bag.Less(sides(part.From, nowOf(old, ch)), sides(part.From, old)) {
			if expr.Holds(part.Where, m.Row) != api.True {
				continue
			}
			r := row()
			for _, o := range part.Outs {
				v, err := expr.Eval(o.E, m.Row)
				r, met[err] = append(r, v), true
			}
			all = append(all, many(m.N, r))
		}
	}
	switch {
	case met[api.ErrType]:
		return nil, api.ErrType
	case met[api.ErrOverflow]:
		return nil, api.ErrOverflow
	}
	return bag.Of(all), api.OK
}

// TestManyPlans holds P14.1 against the model, over many plans and changes.
func TestManyPlans(t *testing.T) {
	m := maker{rand.New(rand.NewSource(1))}
	came := map[api.Errno]int{}
	several, gone, dear := 0, 0, 0
	for range 30000 {
		p, old := m.plan(), m.old()
		ch := m.changes(old)
		wantCost := modelCost(p, old, ch)
		costs(t, p, old, ch, wantCost)
		want, wantErr := model(p, old, ch)
		if came[wantErr]++; wantErr != api.OK {
			refused(t, p, old, ch, wantErr)
		} else {
			brings(t, p, old, ch, want...)
		}
		if t.Failed() {
			return
		}
		if len(want) > 2 {
			several++
		}
		if slices.ContainsFunc(want, func(m api.Many) bool { return m.N < 0 }) {
			gone++
		}
		if wantCost > 100 {
			dear++
		}
	}
	for err, least := range map[api.Errno]int{api.OK: 10000, api.ErrArg: 500, api.ErrName: 200, api.ErrFast: 500, api.ErrResource: 300, api.ErrType: 300, api.ErrOverflow: 100} {
		if came[err] < least {
			t.Errorf("only %d came to %d", came[err], err)
		}
	}
	if several < 3000 || gone < 3000 || dear < 3000 {
		t.Errorf("only %d of several rows, %d of rows that go, %d that are dear", several, gone, dear)
	}
}

// wild are numbers at all ends, and small ones.
func (m maker) wild() int {
	if m.rarely(2) {
		return m.r.Intn(9) - 2
	}
	l := []int{math.MinInt, math.MaxInt, 1 << 62, -1 << 62, api.MaxMany, -api.MaxMany, api.MaxMany - 1, 0, 1, -1, 2, 1 << 20, 1<<20 + 1, 3, -5}
	return l[m.r.Intn(len(l))]
}

func (m maker) wildNames() []api.Named {
	var l []api.Named
	for _, name := range []string{"t", "u", "v", "w", "u"} {
		n := named(name)
		for range 1 + m.r.Intn(3) {
			n.Rows = append(n.Rows, many(m.wild(), ints([]int{1, 2}[:m.r.Intn(3)]...)))
		}
		if !m.rarely(6) {
			l = append(l, n)
		}
	}
	m.r.Shuffle(len(l), func(i, j int) { l[i], l[j] = l[j], l[i] })
	return l
}

// TestCostOfAnything holds P14.1, of Cost: over lists of any numbers, against exact ones.
func TestCostOfAnything(t *testing.T) {
	m := maker{rand.New(rand.NewSource(2))}
	most, none := 0, 0
	for range 30000 {
		var p api.Plan
		for range 1 + m.r.Intn(3) {
			var names []string
			for range m.r.Intn(5) {
				names = append(names, []string{"t", "u", "v", "w", "x"}[m.r.Intn(5)])
			}
			p.Parts = append(p.Parts, from(m.wild(), names...))
		}
		old, ch := m.wildNames(), m.wildNames()
		want := modelCost(p, old, ch)
		costs(t, p, old, ch, want)
		if Rows(p, old, ch); t.Failed() {
			return
		}
		switch want {
		case api.MaxMany:
			most++
		case 0:
			none++
		}
	}
	if most < 3000 || none < 3000 || 30000-most-none < 3000 {
		t.Errorf("%d past the most, %d none", most, none)
	}
}

// TestOldAndRowsAreNow holds P14.2: what was told, with what Rows tells, is what is told now, with its error.
func TestOldAndRowsAreNow(t *testing.T) {
	m := maker{rand.New(rand.NewSource(3))}
	came, told := map[api.Errno]int{}, 0
	for range 30000 {
		p, old := m.plan(), m.old()
		ch := m.changes(old)
		got, err := Rows(p, old, ch)
		was, errOld := plan.Rows(p, old)
		is, errNow := plan.Rows(p, nowOf(old, ch))
		if err == api.ErrFast || err == api.ErrResource || errOld != api.OK || errNow == api.ErrResource || modelErr(p, old, ch) != api.OK {
			continue
		}
		if came[err]++; err != errNow {
			t.Fatalf("Rows(%+v, %+v, %+v) has the error %d, what is told now %d", p, old, ch, err, errNow)
		}
		if err == api.OK && !alikeBags(bag.Add(was, got), is) {
			t.Fatalf("Rows(%+v, %+v, %+v) = %+v, was %+v, is %+v", p, old, ch, got, was, is)
		}
		if err == api.OK && len(was) > 0 && len(got) > 1 {
			told++
		}
	}
	if told < 3000 || came[api.OK] < 6000 || came[api.ErrType] < 100 || came[api.ErrOverflow] < 50 {
		t.Errorf("only %d told rows, %v", told, came)
	}
}

// together is changes that come one after the other as one, of what p reads: of other names they may come to no bag.
func together(p api.Plan, l ...[]api.Named) []api.Named {
	var all []api.Named
	for _, name := range []string{"t", "u", "v", "w"} {
		if !slices.ContainsFunc(p.Parts, func(part api.Part) bool { return slices.Contains(part.From, name) }) {
			continue
		}
		var rows []api.Many
		for _, ch := range l {
			one, _ := find(ch, name)
			rows = bag.Add(rows, one)
		}
		all = append(all, named(name, rows...))
	}
	return all
}

// TestOneAfterTheOther holds P14.3: changes that come one after the other come to what they come to together, and all
// that came goes again; without changes nothing comes or goes.
func TestOneAfterTheOther(t *testing.T) {
	m := maker{rand.New(rand.NewSource(4))}
	told := 0
	for range 30000 {
		p, old := m.plan(), m.old()
		first := m.changes(old)
		a, errA := Rows(p, old, first)
		if errA != api.OK {
			continue
		}
		then := nowOf(old, first)
		second := m.changes(then)
		b, errB := Rows(p, then, second)
		if errB != api.OK {
			continue
		}
		both := together(p, first, second)
		// Both together may be past the limit, and have no error that one of them has not.
		if c, err := Rows(p, old, both); err != api.ErrResource && (err != api.OK || !alikeBags(bag.Add(a, b), c)) {
			t.Fatalf("Rows(%+v, %+v, %+v) = %+v, %d; of %+v %+v, and of %+v behind them %+v", p, old, both, c, err, first, a, second, b)
		}
		back := together(p, first)
		for i := range back {
			back[i].Rows = bag.Turn(back[i].Rows)
		}
		if c, err := Rows(p, then, back); err != api.ErrResource && (err != api.OK || !alikeBags(bag.Turn(a), c)) {
			t.Fatalf("Rows(%+v, %+v, %+v) = %+v, %d, want %+v turned", p, then, back, c, err, a)
		}
		brings(t, p, old, nil)
		if len(a) > 1 && len(b) > 1 {
			told++
		}
	}
	if told < 2000 {
		t.Errorf("only %d told rows", told)
	}
}
