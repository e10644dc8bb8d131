package parse

import (
	"math"
	"slices"
	"strings"
	"testing"

	"belvedere/api"
	"belvedere/lex"
)

// model reads words by the chapter's grammar, all ways at once and without looking ahead, and keeps all faults it comes by.
type model struct {
	words  []api.Word
	depth  int
	rules  map[string]part
	seen   map[spot]found
	faults []fault
}

type spot struct {
	rule      string
	at, depth int
}

// found is where a part of the grammar may end, and the farthest place that was looked at.
type found struct {
	ends  []int
	reach int
}

// part is a part of the grammar: it is looked for at a place of some depth.
type part func(m *model, at, depth int) found

// fault stands ahead of word number place / 2, or at it, if place is odd.
type fault struct {
	place int
	err   api.Errno
}

func word(good func(l []api.Word) bool) part {
	return func(m *model, at, _ int) found {
		if good(m.words[at:]) {
			return found{[]int{at + 1}, at + 1}
		}
		return found{nil, at}
	}
}

func said(s string) part {
	return word(func(l []api.Word) bool {
		return (l[0].Kind == api.WName || l[0].Kind == api.WSign) && l[0].S == s
	})
}

const taken = " create drop table log on off view refresh as insert into values delete from where update set fast complete force nested purge rewrite policy enforced tolerated show " +
	"select distinct group by union all and or not is null true false count sum min max int bool text primary key "

func seq(l ...part) part {
	return func(m *model, at, depth int) found {
		f := found{[]int{at}, at}
		for _, p := range l {
			next := found{nil, f.reach}
			for _, e := range f.ends {
				next.add(p(m, e, depth))
			}
			f = next
		}
		return f
	}
}

func (f *found) add(o found) {
	for _, e := range o.ends {
		if !slices.Contains(f.ends, e) {
			f.ends = append(f.ends, e)
		}
	}
	f.reach = max(f.reach, o.reach)
}

func alt(l ...part) part {
	return func(m *model, at, depth int) found {
		f := found{nil, at}
		for _, p := range l {
			f.add(p(m, at, depth))
		}
		return f
	}
}

func opt(l ...part) part { return alt(seq(), seq(l...)) }

func some(l ...part) part {
	return func(m *model, at, depth int) found {
		f := found{[]int{at}, at}
		for i := 0; i < len(f.ends); i++ {
			f.add(seq(l...)(m, f.ends[i], depth))
		}
		return f
	}
}

func ref(rule string) part {
	return func(m *model, at, depth int) found {
		k := spot{rule, at, depth}
		if _, ok := m.seen[k]; !ok {
			m.seen[k] = m.rules[rule](m, at, depth)
		}
		return m.seen[k]
	}
}

// deep is first, and behind it what stands one deeper.
func deep(first part, l ...part) part {
	return func(m *model, at, depth int) found {
		f := first(m, at, depth)
		if len(f.ends) == 0 {
			return f
		}
		if depth+1 > m.depth {
			m.faults = append(m.faults, fault{2*at + 1, api.ErrResource})
		}
		g := seq(l...)(m, at+1, depth+1)
		g.reach = max(g.reach, f.reach)
		return g
	}
}

// held is p, behind which a fault is told by its words.
func held(p part, check func(l []api.Word) api.Errno) part {
	return func(m *model, at, depth int) found {
		f := p(m, at, depth)
		if slices.Contains(f.ends, f.reach) {
			if err := check(m.words[at:f.reach]); err != api.OK {
				m.faults = append(m.faults, fault{2 * f.reach, err})
			}
		}
		return f
	}
}

func texts(m *model, at, _ int) found {
	w := m.words[at]
	if w.Kind != api.WText {
		return found{nil, at}
	}
	if len(w.S) > 64 {
		m.faults = append(m.faults, fault{2*at + 1, api.ErrLong})
	}
	return found{[]int{at + 1}, at + 1}
}

// parts splits what is written as in the chapter: a name of a rule is that rule, all else a word.
func parts(s string) []part {
	var l []part
	for _, f := range strings.Fields(s) {
		if f[0] == '@' {
			l = append(l, ref(f[1:]))
		} else {
			l = append(l, said(f))
		}
	}
	return l
}

func ways(l ...string) part {
	var r []part
	for _, s := range l {
		r = append(r, seq(parts(s)...))
	}
	return alt(r...)
}

func row(s string, l ...part) part { return seq(append(parts(s), l...)...) }

func many(s string) part { return row("@"+s, some(parts(", @"+s)...)) }

func count(l []api.Word, s ...string) int {
	n := 0
	for _, w := range l {
		if w.Kind != api.WText && slices.Contains(s, w.S) {
			n++
		}
	}
	return n
}

func behind(l []api.Word, s string) []api.Word {
	for i, w := range l {
		if w.Kind != api.WText && w.S == s {
			return l[i+1:]
		}
	}
	return nil
}

func ahead(l []api.Word, s ...string) []api.Word {
	for i, w := range l {
		if w.Kind != api.WText && slices.Contains(s, w.S) {
			return l[:i]
		}
	}
	return l
}

func long(more bool) api.Errno {
	if more {
		return api.ErrLong
	}
	return api.OK
}

func checkTable(l []api.Word) api.Errno {
	cols := count(l, "int", "bool", "text")
	if cols > 8 || count(behind(l, "key"), ",") > 7 {
		return api.ErrLong
	}
	if cols == 0 {
		return api.ErrSyntax
	}
	return api.OK
}

func checkSelect(l []api.Word) api.Errno {
	sources := ahead(behind(l, "from"), "where", "group")
	return long(count(ahead(l, "from"), ",") > 7 || count(sources, ",") > 2 || count(behind(l, "by"), ",") > 3)
}

func grammar() map[string]part {
	numbered := word(func(l []api.Word) bool { return l[0].Kind == api.WInt && l[0].N <= math.MaxInt64 })
	ahead := word(func(l []api.Word) bool { return l[0].S == "-" && l[0].Kind == api.WSign && l[1].Kind == api.WInt })
	sign := word(func(l []api.Word) bool { return l[0].S == "-" && l[0].Kind == api.WSign && l[1].Kind != api.WInt })
	return map[string]part{
		"stmt": alt(ref("query"), ref("table"),
			ways("create log on @name", "create view @name refresh @mode as @query", "drop table @name", "drop log on @name", "drop view @name"),
			row("insert into @name values @rows"), row("delete from @name", opt(parts("where @cond")...)),
			row("update @name set @sets", opt(parts("where @cond")...)), row("refresh @name", opt(ref("mode")), opt(said("nested"))),
			ways("purge log on @name", "set rewrite on", "set rewrite off", "set policy enforced", "set policy tolerated", "show @name")),
		"table": row("create table @name", held(row("(", alt(row("@cols", opt(parts(", @key")...)), ref("key")), said(")")), checkTable)),
		"cols":  many("col"),
		"key":   row("primary key (", many("name"), said(")")),
		"col":   row("@name", ways("int", "bool", "text"), opt(parts("not null")...)),
		"mode":  ways("fast", "complete", "force"),
		"rows":  held(many("tuple"), func(l []api.Word) api.Errno { return long(count(l, "(") > 16) }),
		"tuple": held(row("(", many("value"), said(")")), func(l []api.Word) api.Errno { return long(count(l, ",") > 7) }),
		"sets":  held(many("set"), func(l []api.Word) api.Errno { return long(count(l, ",") > 7) }),
		"set":   row("@name = @expr"),
		"query": held(row("@select", some(parts("union all @select")...)), func(l []api.Word) api.Errno { return long(count(l, "select") > 4) }),
		"select": held(row("select", opt(said("distinct")), many("item"), said("from"), many("source"), opt(parts("where @cond")...),
			opt(row("group by", many("column")))), checkSelect),
		"item":    seq(ways("@expr", "count ( * )", "count ( @expr )", "sum ( @expr )", "min ( @expr )", "max ( @expr )"), opt(parts("as @name")...)),
		"source":  row("@name", opt(parts("as @name")...)),
		"cond":    row("@both", some(parts("or @both")...)),
		"both":    row("@simple", some(parts("and @simple")...)),
		"simple":  alt(deep(said("not"), ref("simple")), deep(said("("), parts("@cond )")...), row("@operand", ref("op"), ref("operand")), row("@operand is", opt(said("not")), said("null"))),
		"op":      ways("=", "<>", "<", "<=", ">", ">="),
		"operand": ways("@value", "@column"),
		"expr":    row("@term", some(ways("+ @term", "- @term"))),
		"term":    row("@factor", some(parts("* @factor")...)),
		"factor":  alt(ref("value"), ref("column"), deep(said("("), parts("@expr )")...), deep(sign, ref("factor"))),
		"value":   alt(ways("null", "true", "false"), texts, numbered, seq(ahead, word(func(l []api.Word) bool { return l[0].Kind == api.WInt }))),
		"column":  row("@name", opt(parts(". @name")...)),
		"name": word(func(l []api.Word) bool {
			return l[0].Kind == api.WName && len(l[0].S) <= 16 && !strings.Contains(taken, " "+l[0].S+" ")
		}),
	}
}

var rules = grammar()

// wanted is the error that the model tells of s.
func wanted(s string, depth int) api.Errno {
	words, _, err := lex.Words(s)
	if err != api.OK {
		return err
	}
	m := &model{words: words, depth: depth, rules: rules, seen: map[spot]found{}}
	end := word(func(l []api.Word) bool { return l[0].Kind == api.WEnd })
	f := seq(ref("stmt"), end)(m, 0, 0)
	if len(f.ends) == 0 {
		m.faults = append(m.faults, fault{2*f.reach + 1, api.ErrSyntax})
	}
	first := fault{math.MaxInt, api.OK}
	for _, f := range m.faults {
		if f.place < first.place || f.place == first.place && f.err < first.err {
			first = f
		}
	}
	return first.err
}

// like holds the error of s against the model's.
func like(t *testing.T, s string, depth int) {
	t.Helper()
	if _, err := Parse(s, depth); err != wanted(s, depth) {
		t.Fatalf("Parse(%q, %d): %d, want %d", s, depth, err, wanted(s, depth))
	}
}

// TestShort holds P9.1 and P9.2 of all short commands of words that stand for the others.
func TestShort(t *testing.T) {
	for _, l := range []struct {
		s     string
		words string
		most  int
	}{
		{"delete from t where", "a 1 = ( ) not and or is null - .", 4},
		{"delete from t where (a =", "a 1 ) and or not - (", 4},
		{"select", "a 1 - ( ) , * + . count from t as", 4},
		{"select a from t", "a , as where group by union all select from =", 4},
		{"update t set a =", "a 1 - ( ) , * + . where =", 4},
		{"create table t", "( ) , a int not null primary key", 5},
		{"create table t (a int", "( ) , a int primary key", 5},
		{"insert into t values", "( ) , 1 - null a 'x'", 5},
		{"", "create drop table log view on refresh purge set show t fast nested rewrite policy off enforced as", 3},
	} {
		words := strings.Fields(l.words)
		var all func(s string, n int)
		all = func(s string, n int) {
			like(t, s, 1)
			if n == l.most {
				return
			}
			for _, w := range words {
				all(s+" "+w, n+1)
			}
		}
		all(l.s, 0)
	}
}
