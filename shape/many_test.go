package shape

import (
	"fmt"
	"math/rand"
	"slices"
	"strings"
	"testing"

	"belvedere/api"
	"belvedere/plan"
)

// maker makes plans, many of which can be refreshed fast, or nearly.
type maker struct{ r *rand.Rand }

// rarely is true once in n times.
func (m maker) rarely(n int) bool { return m.r.Intn(n) == 0 }

func (m maker) value() api.Value {
	return []api.Value{nothing, nothing, num(1), num(2), text("a"), {N: 1}, {Kind: api.TInt, N: 1, S: "a"}}[m.r.Intn(7)]
}

func (m maker) calc(width, size int) api.Calc {
	if size == 0 || m.rarely(2) {
		if m.rarely(5) {
			return val(m.value())
		}
		return col(m.r.Intn(width))
	}
	e := calc(api.EAdd+m.r.Intn(4), m.calc(width, size-1))
	if e.Kind != api.ENeg {
		e.Args = append(e.Args, m.calc(width, size-1))
	}
	return e
}

// other is e in new memory, rarely with something that isn't as it was.
func (m maker) other(e api.Calc) api.Calc {
	var args []api.Calc
	for _, a := range e.Args {
		args = append(args, m.other(a))
	}
	e.Args = args
	if !m.rarely(9) {
		return e
	}
	switch m.r.Intn(6) {
	case 0:
		e.Kind = m.r.Intn(8)
	case 1:
		e.At = m.r.Intn(3)
	case 2:
		e.Val = m.value()
	case 3:
		e.Args = append(e.Args, col(0))
	case 4:
		e.Args = e.Args[:len(e.Args)/2]
	case 5:
		slices.Reverse(e.Args)
	}
	return e
}

func (m maker) part(names int) api.Part {
	p := api.Part{Distinct: m.rarely(25)}
	width := 0
	for range 1 + m.r.Intn(names) {
		w := 1 + m.r.Intn(3)
		p.From, p.Widths, width = append(p.From, []string{"t", "u", "v", "t1", "T", ""}[m.r.Intn(6)]), append(p.Widths, w), width+w
	}
	if m.rarely(3) {
		p.Where = compared(api.OpLt, m.calc(width, 1), m.calc(width, 1))
	}
	return p
}

// plain is a part without groups, of that many Outs.
func (m maker) plain(outs int) api.Part {
	p := m.part(3)
	for range outs {
		p.Outs = append(p.Outs, told(m.calc(p.Widths[0], 1)))
	}
	return p
}

// grouped is a part by the table, or nearly.
func (m maker) grouped() api.Part {
	p := m.part(3)
	width := p.Widths[0]
	for range m.r.Intn(4) {
		p.Group = append(p.Group, m.r.Intn(width))
	}
	for _, at := range p.Group {
		if !m.rarely(12) {
			p.Outs = append(p.Outs, api.Out{E: m.other(col(at)), Name: "k", Type: m.r.Intn(4)})
		}
	}
	if !m.rarely(8) {
		p.Outs = append(p.Outs, gives(api.ACount, m.calc(width, 1)))
	}
	for range m.r.Intn(3) {
		e := m.calc(width, 2)
		p.Outs = append(p.Outs, sum(e))
		if !m.rarely(10) {
			p.Outs = append(p.Outs, some(m.other(e)))
		}
	}
	if m.rarely(12) {
		p.Outs = append(p.Outs, gives(m.r.Intn(8), m.calc(width, 0)))
	}
	m.r.Shuffle(len(p.Outs), func(i, k int) { p.Outs[i], p.Outs[k] = p.Outs[k], p.Outs[i] })
	return p
}

func (m maker) plan() api.Plan {
	if !m.rarely(3) {
		p := planOf(m.grouped())
		if m.rarely(20) {
			p.Parts = slices.Insert(p.Parts, m.r.Intn(2), m.plain(len(p.Parts[0].Outs)))
		}
		return p
	}
	var p api.Plan
	outs := 1 + m.r.Intn(3)
	for range 1 + m.r.Intn(4) {
		p.Parts = append(p.Parts, m.plain(outs))
	}
	if m.rarely(30) {
		p.Parts = append(p.Parts, m.plain(1))
	}
	return p
}

// written is all of an expression's fields as text.
func written(e api.Calc) string {
	var b strings.Builder
	fmt.Fprintf(&b, "%d %d (%d %d %q) [", e.Kind, e.At, e.Val.Kind, e.Val.N, e.Val.S)
	for _, a := range e.Args {
		b.WriteString(written(a) + "; ")
	}
	return b.String() + "]"
}

// placeOf is Place by the chapter's words.
func placeOf(p api.Part, agg int, e api.Calc) int {
	found := -1
	for at := len(p.Outs) - 1; at >= 0; at-- {
		if o := p.Outs[at]; o.Agg == agg && (agg == api.ACount || written(o.E) == written(e)) {
			found = at
		}
	}
	return found
}

// fault is the row of the table that a grouped part breaks first, "" if it breaks none.
func fault(p api.Part) string {
	if placeOf(p, api.ACount, api.Calc{}) < 0 {
		return "no count"
	}
	for _, at := range p.Group {
		if placeOf(p, api.ANone, col(at)) < 0 {
			return "a column isn't told"
		}
	}
	for _, o := range p.Outs {
		if o.Agg > api.ASum {
			return "barred"
		}
	}
	for _, o := range p.Outs {
		if o.Agg == api.ASum && placeOf(p, api.ASome, o.E) < 0 {
			return "a sum isn't counted"
		}
	}
	return ""
}

// why is why p can't be refreshed fast, "" or "groups" if it can.
func why(p api.Plan) (string, bool) {
	if !plan.Right(p) {
		return "may not be", false
	}
	grouped := 0
	for _, part := range p.Parts {
		if part.Distinct {
			return "distinct", false
		}
		if plan.Grouped(part) {
			grouped++
		}
	}
	if grouped == 0 {
		return "", true
	}
	if len(p.Parts) > 1 {
		return "not alone", false
	}
	if broken := fault(p.Parts[0]); broken != "" {
		return broken, false
	}
	return "groups", true
}

// namesOf is Refs by the chapter's words.
func namesOf(p api.Plan) []string {
	var l []string
	for _, part := range p.Parts {
		for _, name := range part.From {
			at, found := slices.BinarySearch(l, name)
			if !found {
				l = slices.Insert(l, at, name)
			}
		}
	}
	return l
}

// TestMany holds P15.1 and P15.2 of many plans against the chapter's words.
func TestMany(t *testing.T) {
	m := maker{rand.New(rand.NewSource(15))}
	met := map[string]int{}
	found := 0
	for range 40000 {
		p := m.plan()
		reason, want := why(p)
		met[reason]++
		fast(t, p, want)
		refs(t, p, namesOf(p)...)
		for _, part := range p.Parts {
			e := m.other(m.calc(3, 2))
			if len(part.Outs) > 0 {
				e = m.other(part.Outs[m.r.Intn(len(part.Outs))].E)
			}
			for agg := range 8 {
				at := placeOf(part, agg, e)
				place(t, part, agg, e, at)
				found += min(at+1, 1)
			}
		}
		if t.Failed() {
			t.FailNow()
		}
	}
	for _, reason := range []string{"", "groups", "may not be", "distinct", "not alone", "no count", "a column isn't told", "barred", "a sum isn't counted"} {
		if met[reason] < 400 {
			t.Errorf("%q was met %d times", reason, met[reason])
		}
	}
	if found < 20000 {
		t.Errorf("%d were found", found)
	}
}
