package graph

import (
	"slices"
	"strconv"
	"strings"
	"testing"

	"belvedere/api"
)

// node is a name and what it reads.
func node(name string, refs ...string) api.Node { return api.Node{Name: name, Refs: refs} }

func nodes(l ...api.Node) []api.Node { return l }

// words are the words of s.
func words(s string) []string { return strings.Fields(s) }

// written are nodes that are written as "v: u t, u: t, t".
func written(s string) []api.Node {
	var l []api.Node
	for _, part := range strings.Split(s, ",") {
		name, refs, _ := strings.Cut(part, ":")
		l = append(l, node(strings.TrimSpace(name), words(refs)...))
	}
	return l
}

// numbered is the name of a number: a, b, c and so on.
func numbered(i int) string { return string(rune('a' + i)) }

// alone are n nodes that read nothing.
func alone(n int) []api.Node {
	var l []api.Node
	for i := range n {
		l = append(l, node("n"+strconv.Itoa(100+i)))
	}
	return l
}

// inARow are n nodes, each of which reads the one ahead of it: b reads a, c reads b, and so on.
func inARow(n int) []api.Node {
	l := nodes(node("a"))
	for i := 1; i < n; i++ {
		l = append(l, node(numbered(i), numbered(i-1)))
	}
	return l
}

// circle are n nodes in a row, of which the first reads the last.
func circle(n int) []api.Node {
	l := inARow(n)
	l[0].Refs = []string{numbered(n - 1)}
	return l
}

// turned is l from its end on.
func turned(l []api.Node) []api.Node {
	l = slices.Clone(l)
	slices.Reverse(l)
	return l
}

// firsts are the first n names in a row.
func firsts(n int) []string {
	var l []string
	for i := range n {
		l = append(l, numbered(i))
	}
	return l
}

// ordered holds Check and Order to an order.
func ordered(t *testing.T, l []api.Node, want ...string) {
	t.Helper()
	if got, err := Order(l); err != api.OK || !slices.Equal(got, want) {
		t.Errorf("Order(%q) = %q, %d, want %q", l, got, err, want)
	}
	if err := Check(l); err != api.OK {
		t.Errorf("Check(%q) = %d, want OK", l, err)
	}
}

// refused holds Check, Order and Below, of each name and of one that isn't there, to an error.
func refused(t *testing.T, l []api.Node, want api.Errno) {
	t.Helper()
	if err := Check(l); err != want {
		t.Errorf("Check(%q) = %d, want %d", l, err, want)
	}
	if got, err := Order(l); err != want || len(got) > 0 {
		t.Errorf("Order(%q) = %q, %d, want nothing and %d", l, got, err, want)
	}
	for _, n := range append(slices.Clone(l), node("nobody")) {
		belowRefused(t, l, n.Name, want)
	}
}

func belowRefused(t *testing.T, l []api.Node, name string, want api.Errno) {
	t.Helper()
	if got, err := Below(l, name); err != want || len(got) > 0 {
		t.Errorf("Below(%q, %q) = %q, %d, want nothing and %d", l, name, got, err, want)
	}
}

func below(t *testing.T, l []api.Node, name string, want ...string) {
	t.Helper()
	if got, err := Below(l, name); err != api.OK || !slices.Equal(got, want) {
		t.Errorf("Below(%q, %q) = %q, %d, want %q", l, name, got, err, want)
	}
}

func above(t *testing.T, l []api.Node, name string, want ...string) {
	t.Helper()
	if got := Above(l, name); !slices.Equal(got, want) {
		t.Errorf("Above(%q, %q) = %q, want %q", l, name, got, want)
	}
}

// TestExamples holds the chapter's examples.
func TestExamples(t *testing.T) {
	l := written("v: u t, u: t, t")
	ordered(t, l, "t", "u", "v")
	below(t, l, "v", "t", "u")
	above(t, l, "t", "u", "v")
	refused(t, written("a: a"), api.ErrCycle)
}

// TestOrder holds P17.1: each name stands behind all that it reads, and of all that may come next the least comes.
func TestOrder(t *testing.T) {
	for l, want := range map[string]string{
		"a":                            "a",
		"b, a":                         "a b",
		"a: b, b":                      "b a",
		"b: a, a":                      "a b",
		"a: b b b, b":                  "b a",
		"c, b, a":                      "a b c",
		"a: c, b, c":                   "b c a",
		"a: b, b: c, c":                "c b a",
		"c: a b, b: a, a":              "a b c",
		"a: z, b: y, y, z":             "y b z a",
		"a: z, b: y, y: z, z":          "z a y b",
		"a: d, b: d, c: d, d":          "d a b c",
		"a: b c d, b: d, c: d, d":      "d b c a",
		"d: c b, c: a, b: a, a":        "a b c d",
		"a: e, b, c: b, d: c, e":       "b c d e a",
		"m: z, n: z, z: y, y, x, o: n": "x y z m n o",
		// What may come next at last is held against what might have come for long.
		"z, b: a, a, c: z":     "a b z c",
		"y, x: w, w: y, v: x":  "y w x v",
		"a: a1, a1: a2, a2, b": "a2 a1 a b",
	} {
		ordered(t, written(l), words(want)...)
		ordered(t, turned(written(l)), words(want)...)
	}
}

// TestNoNodes holds P17.1 and P17.2 where there is nothing.
func TestNoNodes(t *testing.T) {
	for _, l := range [][]api.Node{nil, {}} {
		ordered(t, l)
		belowRefused(t, l, "a", api.ErrName)
		belowRefused(t, l, "", api.ErrName)
		above(t, l, "a")
		above(t, l, "")
	}
	ordered(t, nodes(api.Node{}), "")
	ordered(t, nodes(api.Node{Name: "a", Refs: []string{}}), "a")
	below(t, nodes(api.Node{}), "")
}

// TestMany holds P17.1: just MaxObjects may stand together.
func TestMany(t *testing.T) {
	for n := range api.MaxObjects + 1 {
		ordered(t, alone(n), namesOf(alone(n))...)
		ordered(t, turned(alone(n)), namesOf(alone(n))...)
	}
	for _, n := range []int{api.MaxObjects + 1, api.MaxObjects + 2, 1000} {
		refused(t, alone(n), api.ErrLong)
	}
	refused(t, make([]api.Node, api.MaxObjects+1), api.ErrLong)
	refused(t, make([]api.Node, api.MaxObjects), api.ErrTwice)
}

// TestLeast holds P17.1: of several that may come next the least comes, byte by byte.
func TestLeast(t *testing.T) {
	rising := []string{"", "\x00", " ", "0", "10", "9", "A", "Aa", "B", "T", "Z", "_", "a", "a\x00", "aB", "aa",
		"ab", "b", "t", "t1", "t10", "t2", "tT", "tt", "z", "z\x7f", "z\x80", "z\xff", "\x7f", "\x80", "\xc3\xa4", "\xe4", "\xff", "\xff\xff"}
	for from := range len(rising) - api.MaxObjects + 1 {
		want := rising[from : from+api.MaxObjects]
		var l []api.Node
		for _, name := range want {
			l = append(l, node(name))
		}
		ordered(t, l, want...)
		ordered(t, turned(l), want...)
	}
	for i, lower := range rising {
		for _, upper := range rising[i+1:] {
			ordered(t, nodes(node(upper), node(lower)), lower, upper)
			ordered(t, nodes(node(lower, upper), node(upper)), upper, lower)
			ordered(t, nodes(node("root"), node(upper, "root"), node(lower, "root")), "root", lower, upper)
			below(t, nodes(node(upper), node("top", upper, lower), node(lower)), "top", lower, upper)
			above(t, nodes(node(upper, "root"), node(lower, "root")), "root", lower, upper)
		}
	}
}

// TestRefused holds P17.1: each error alone.
func TestRefused(t *testing.T) {
	for l, want := range map[string]api.Errno{
		"a, a":                api.ErrTwice,
		"a, b, a":             api.ErrTwice,
		"b, a, c, a":          api.ErrTwice,
		"a, a, a":             api.ErrTwice,
		"a: b, b, a: b":       api.ErrTwice,
		"a: b, b, a":          api.ErrTwice,
		"a: b":                api.ErrName,
		"a: b b":              api.ErrName,
		"a, b: a c":           api.ErrName,
		"a, b: c a":           api.ErrName,
		"a: A":                api.ErrName,
		"a1: a":               api.ErrName,
		"a: a1":               api.ErrName,
		"a, b: a, c: b, d: e": api.ErrName,
		"a: a":                api.ErrCycle,
		"a: a a":              api.ErrCycle,
		"a, b: b":             api.ErrCycle,
		"a, b: a b":           api.ErrCycle,
		"a: b, b: b":          api.ErrCycle,
		"a: b, b: a":          api.ErrCycle,
		"a: b, b: c, c: a":    api.ErrCycle,
		"a: b, b: c, c: b":    api.ErrCycle,
		// A circle beside nodes that stand in order, ahead of it, behind it and around it.
		"a, b: a, x: y, y: x":                 api.ErrCycle,
		"a, b: a, x: b y, y: x":               api.ErrCycle,
		"a: x, b: a, x: y, y: x":              api.ErrCycle,
		"a, b: a, c: y b, x: y a, y: x, z: c": api.ErrCycle,
	} {
		refused(t, written(l), want)
		refused(t, turned(written(l)), want)
	}
	refused(t, nodes(node("a", "")), api.ErrName)
	refused(t, nodes(node(""), node("")), api.ErrTwice)
	refused(t, nodes(node("", "")), api.ErrCycle)
	for n := 1; n <= api.MaxObjects; n++ {
		refused(t, circle(n), api.ErrCycle)
		refused(t, turned(circle(n)), api.ErrCycle)
	}
}

// TestFirstFault holds P17.1: of several faults that one is told that the chapter names first.
func TestFirstFault(t *testing.T) {
	faults := [][]api.Node{written("a, a"), written("b: nobody1"), written("c: c")}
	wants := []api.Errno{api.ErrTwice, api.ErrName, api.ErrCycle}
	// Each number from 1 on is some of the faults; the first of them is to be told.
	for some := 1; some < 1<<len(faults); some++ {
		var l []api.Node
		want := api.OK
		for i, fault := range faults {
			if some>>i&1 == 1 {
				l = append(l, fault...)
				if want == api.OK {
					want = wants[i]
				}
			}
		}
		refused(t, l, want)
		refused(t, turned(l), want)
		refused(t, append(l, alone(api.MaxObjects)...), api.ErrLong)
		refused(t, append(alone(api.MaxObjects), l...), api.ErrLong)
	}
	refused(t, written("a: nobody1, a: a"), api.ErrTwice)
	refused(t, written("a: a nobody1"), api.ErrName)
	refused(t, written("a: b, b: a, c: nobody1"), api.ErrName)
	refused(t, slices.Repeat(written("a: a nobody1"), api.MaxObjects), api.ErrTwice)
	refused(t, slices.Repeat(written("a: a nobody1"), api.MaxObjects+1), api.ErrLong)
}

// TestBelow holds P17.2: all that a name reads, or that one of these reads, and so on, in Order's order.
func TestBelow(t *testing.T) {
	l := written("e: b d, d: a a, c: b, b: z a, a: z, z, y, x: y")
	ordered(t, l, "y", "x", "z", "a", "b", "c", "d", "e")
	for name, want := range map[string]string{
		"a": "z", "b": "z a", "c": "z a b", "d": "z a", "e": "z a b d", "x": "y", "y": "", "z": "",
	} {
		below(t, l, name, words(want)...)
		below(t, turned(l), name, words(want)...)
	}
	for _, name := range []string{"f", "", "A", "aa", "z "} {
		belowRefused(t, l, name, api.ErrName)
	}
}

// TestTwoWays holds P17.2: what is reached by two ways stands there once.
func TestTwoWays(t *testing.T) {
	l := written("top: left right, left: root, right: root, root")
	below(t, l, "top", "root", "left", "right")
	below(t, written("top: left root, left: root, root"), "top", "root", "left")
	below(t, written("top: left left left, left: root root, root"), "top", "root", "left")
	// A long way and a short one: what the long one reaches at its end is there too.
	below(t, written("a: b e, b: c, c: d, d: e, e: f, f, g: f"), "a", "f", "e", "d", "c", "b")
}

// TestInARow holds P17.1 and P17.2 for names that read each other in a row.
func TestInARow(t *testing.T) {
	for _, l := range [][]api.Node{inARow(api.MaxObjects), turned(inARow(api.MaxObjects))} {
		ordered(t, l, firsts(api.MaxObjects)...)
		for i := range api.MaxObjects {
			below(t, l, numbered(i), firsts(i)...)
		}
		above(t, l, numbered(api.MaxObjects-1))
		for i := range api.MaxObjects - 1 {
			above(t, l, numbered(i), numbered(i+1))
		}
	}
	// Each reads all that are ahead of it.
	var all []api.Node
	for i := range api.MaxObjects {
		all = append(all, node(numbered(i), firsts(i)...))
	}
	ordered(t, turned(all), firsts(api.MaxObjects)...)
	below(t, turned(all), numbered(api.MaxObjects-1), firsts(api.MaxObjects-1)...)
	above(t, turned(all), "a", firsts(api.MaxObjects)[1:]...)
}

// TestAbove holds P17.2: those that read a name themselves, of any nodes.
func TestAbove(t *testing.T) {
	l := written("e: b d, d: a a, c: b, b: z a, a: z, z, y, x: y")
	for name, want := range map[string]string{
		"a": "b d", "b": "c e", "c": "", "d": "e", "e": "", "x": "", "y": "x", "z": "a b", "nobody": "", "": "", "A": "",
	} {
		above(t, l, name, words(want)...)
		above(t, turned(l), name, words(want)...)
	}
}

// TestAboveOfAny holds P17.2: Above asks nothing of the nodes.
func TestAboveOfAny(t *testing.T) {
	for l, want := range map[string]string{
		"a: t, a: t":           "a",
		"b: t, a, b: t, a: t":  "a b",
		"a, a: t":              "a",
		"a: t t t":             "a",
		"t: t":                 "t",
		"b: t, t: t, a: t":     "a b t",
		"a: t, b: a":           "a",
		"a: t nobody, b: u t":  "a b",
		"a: T":                 "",
		"a: tt":                "",
		"a: b, b: a":           "",
		"b: t a, a: b t, t: a": "a b",
		"t, t":                 "",
	} {
		above(t, written(l), "t", words(want)...)
		above(t, turned(written(l)), "t", words(want)...)
	}
	above(t, nodes(node("", "t"), node("a", "")), "t", "")
	above(t, nodes(node("", "t"), node("a", "")), "", "a")
	above(t, nodes(node("", "")), "", "")
	above(t, nodes(node("a", "\xff\x00"), node("b", "\xff")), "\xff", "b")
}

// TestAboveOfTooMany holds P17.2: Above takes more nodes than may stand together, and tells each of their names.
func TestAboveOfTooMany(t *testing.T) {
	const many = 3000
	var l []api.Node
	for i := range many {
		l = append(l, node("n"+strconv.Itoa(10000+i), "t"), node("n"+strconv.Itoa(10000+i), "t"), node("m", "u"))
	}
	got := Above(turned(l), "t")
	if len(got) != many || got[0] != "n10000" || got[many-1] != "n12999" || !slices.IsSorted(got) {
		t.Errorf("Above of %d nodes = %d names, want %d, each once and rising", len(l), len(got), many)
	}
	above(t, l, "u", "m")
	above(t, l, "m")
}

// TestLong holds P1: long lists of what is read, and long names, come to an end soon.
func TestLong(t *testing.T) {
	const often = 1 << 16
	l := turned(inARow(api.MaxObjects))
	for i := range l {
		l[i].Refs = slices.Repeat(l[i].Refs, often)
	}
	last := numbered(api.MaxObjects - 1)
	if got, err := Order(l); err != api.OK || !slices.Equal(got, firsts(api.MaxObjects)) {
		t.Errorf("Order of long lists = %q, %d", got, err)
	}
	if got, err := Below(l, last); err != api.OK || !slices.Equal(got, firsts(api.MaxObjects-1)) {
		t.Errorf("Below of long lists = %q, %d", got, err)
	}
	if got := Above(l, "a"); !slices.Equal(got, []string{"b"}) {
		t.Errorf("Above of long lists = %q", got)
	}
	l[0].Refs = append(l[0].Refs, last)
	if err := Check(l); err != api.ErrCycle {
		t.Errorf("Check of a long list, of which the last is a circle, = %d", err)
	}
	l[0].Refs[often] = "nobody"
	if err := Check(l); err != api.ErrName {
		t.Errorf("Check of a long list, of which the last is nobody's, = %d", err)
	}
}

// TestLongNames holds P17.1 and P17.2 where names differ at their last byte alone.
func TestLongNames(t *testing.T) {
	long := strings.Repeat("a", 1<<16)
	a, b, c := long+"a", long+"b", long+"c"
	l := nodes(node(c, b, b), node(b, a), node(a), node(long))
	want := []string{long, a, b, c}
	if got, err := Order(l); err != api.OK || !slices.Equal(got, want) {
		t.Errorf("Order of long names = %d names, %d", len(got), err)
	}
	if got, err := Below(l, c); err != api.OK || !slices.Equal(got, want[1:3]) {
		t.Errorf("Below of long names = %d names, %d", len(got), err)
	}
	if got := Above(l, b); !slices.Equal(got, want[3:]) {
		t.Errorf("Above of long names = %d names", len(got))
	}
}
